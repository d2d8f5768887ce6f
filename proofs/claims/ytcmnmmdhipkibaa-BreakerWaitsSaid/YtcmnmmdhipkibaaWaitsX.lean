/-
  Whatever is asked and told, nothing goes through while a breaker is open but one ask at its time: the law's walk.
-/
import Derived.Test.YtcmnmmdhipkibaaWaitsW
namespace Go.Proofs.Ytcmnmmdhipkibaa
open Go.RowKit
set_option linter.unusedVariables false

namespace Brk
theorem mod_is {m d : Int} (hm : 0 < m) (h2 : m ≤ 2097152) : (wrap64 (d.tmod m + m)).tmod m = d % m := by
  have h2 := Int.tmod_eq_emod (a := d) (b := m)
  have h3 := Int.emod_nonneg d (show m ≠ 0 by omega)
  have h4 := Int.emod_lt_of_pos d hm
  have h5 : -m < d.tmod m ∧ d.tmod m < m := by
    rw [h2]
    split <;> omega
  have e : wrap64 (d.tmod m + m) = d.tmod m + m := by
    generalize d.tmod m = x at *
    unfold wrap64
    omega
  have e2 : (d.tmod m + m).tmod m = (d.tmod m + m) % m := Int.tmod_eq_emod_of_nonneg (by omega)
  rw [e, e2, Int.add_emod_right, h2]
  split
  · simp
  · rw [Int.sub_emod, show (↑m.natAbs : Int) % m = 0 by rw [Int.natAbs_of_nonneg (by omega), Int.emod_self], Int.sub_zero, Int.emod_emod, Int.emod_emod]
theorem ns_cut {w : World} {oa : Option Addr} {n cap : Nat} {xs : List Int} (h : Ns w oa n cap xs) (m : Nat) (hm : m ≤ n) : Ns w oa m cap (xs.take m) := by
  refine ⟨by rw [List.length_take]; have := h.len; omega, by have := h.room; omega, fun i hi => ?_⟩
  obtain ⟨g, o, hg, hc⟩ := h.cell i (by omega)
  refine ⟨g, o, hg, ?_⟩
  rw [hc, List.getD_eq_getElem?_getD, List.getD_eq_getElem?_getD, List.getElem?_take_of_lt hi]
/-- the breaker as the law knows it -/
def Mode (F R U : Int) (p : Bool) (S C V : Int) : Prop :=
  (U = -1 ∧ p = false ∧ S = 0 ∧ R = C ∧ V = 0 ∧ 0 ≤ R ∧ R < F) ∨ (U = V ∧ p = false ∧ S = 1 ∧ C = 0 ∧ R = 0 ∧ 0 ≤ U ∧ U ≤ 2000) ∨ (U = -1 ∧ p = true ∧ S = 2 ∧ C = 0 ∧ V = 0 ∧ R = 0)
theorem mode_closed {F R : Int} (h0 : 0 ≤ R) (h1 : R < F) : Mode F R (-1) false 0 R 0 := Or.inl ⟨rfl, rfl, rfl, rfl, rfl, h0, h1⟩
theorem mode_open {F U : Int} (h0 : 0 ≤ U) (h1 : U ≤ 2000) : Mode F 0 U false 1 0 U := Or.inr (Or.inl ⟨rfl, rfl, rfl, rfl, rfl, h0, h1⟩)
theorem mode_half {F : Int} : Mode F 0 (-1) true 2 0 0 := Or.inr (Or.inr ⟨rfl, rfl, rfl, rfl, rfl, rfl⟩)
theorem set_open {O T : Int} (h : T + O ≤ 1099511627776) : T + O = setU O T false := by
  unfold setU addT
  rw [if_neg (by decide), if_neg (by omega)]
/-- a call's answer kept, and the breaker's variable in the world behind it -/
theorem kept {w wr w1 : World} {A : Nat} {F O S C V : Int} (hV : Var wr A F O S C V) (hB : Below w.heap.size w wr) (B1 : Below wr.heap.size wr w1) (o : Obj) : Var (w1.alloc o) A F O S C V ∧ Below w.heap.size w (w1.alloc o) :=
  ⟨(hV.keep B1 (Nat.le_refl _)).alloc o, (hB.trans (B1.mono hB.size)).alloc (Nat.le_trans hB.size B1.size) o⟩
set_option maxHeartbeats 8000000 in
set_option maxRecDepth 100000 in
theorem walk (a b : Int) (oa : Option Addr) (n cap : Nat) (xs : List Int) (w : World) (hN : Ns w oa n cap xs) (hcap : cap ≤ maxLen) :
    Calls Try.prog 3 #[.int .i64 a, .int .i64 b, .slice oa n cap] w fun e w' => e = .returned (.bool true) ∧ Below w.heap.size w w' := by
  unfold maxLen at hcap
  have hroom := hN.room
  obtain ⟨m, HM⟩ : ∃ m, Hid (m ≤ n ∧ m ≤ 200 ∧ (n ≤ 200 → m = n) ∧ (200 < n → m = 200)) := by
    by_cases h : n ≤ 200
    · exact ⟨n, by omega, by omega, fun _ => rfl, fun h' => by omega⟩
    · exact ⟨200, by omega, by omega, fun h' => by omega, fun _ => rfl⟩
  have N0 := ns_cut hN m HM.out.1
  generalize xs.take m = ys at N0
  have HN := Lib.hid N0
  clear hN N0
  obtain ⟨F0, hF0⟩ : ∃ F0, (wrap64 (a.tmod 9 + 9)).tmod 9 = F0 := ⟨_, rfl⟩
  obtain ⟨O0, hO0⟩ : ∃ O0, (wrap64 (b.tmod 30 + 30)).tmod 30 = O0 := ⟨_, rfl⟩
  have f0 : 0 ≤ F0 ∧ F0 ≤ 8 := by rw [← hF0, mod_is (by omega) (by omega)]; omega
  have o0 : 0 ≤ O0 ∧ O0 ≤ 29 := by rw [← hO0, mod_is (by omega) (by omega)]; omega
  obtain ⟨f1, f2⟩ := f0
  obtain ⟨o1, o2⟩ := o0
  go_enter Try.func3, Try.ntmps3
  go_wp2_with fail
  clear hF0 hO0
  replace f1 : 1 ≤ 1 + F0 := by omega
  replace f2 : 1 + F0 ≤ 9 := by omega
  replace o1 : 1 ≤ 1 + O0 := by omega
  replace o2 : 1 + O0 ≤ 30 := by omega
  generalize 1 + F0 = F at *
  generalize 1 + O0 = O at *
  refine (new_yes F O _ ((right_iff _ _ _ _ _).2 ⟨f1, by omega, o1, by omega, (st_iff _ _ _ _).2 (Or.inl ⟨rfl, by omega, by omega, rfl⟩)⟩)).mono ?_
  rintro e w1 ⟨rfl, B1⟩
  go_wp2_with fail
  refine (alive7 _).mono ?_
  rintro e w2 ⟨rfl, B2⟩
  have hV0 : Var w2 w1.heap.size F O 0 0 0 := (Var.new w1 F O 0 0 0).keep B2 (Nat.le_refl _)
  have hB0 : Below w.heap.size w w2 := (B1.alloc B1.size _).trans (B2.mono (by have := B1.size; simp; omega))
  have hA : w.heap.size ≤ w1.heap.size := B1.size
  clear B1 B2
  have HV0 := Lib.hid hV0
  clear hV0
  generalize w1.heap.size = A at *
  go_upto_region 6 with fail
  go_cut [47, 48, 49] (fun s1 s2 s3 wx => s1 = .slice oa m cap ∧ s2 = .int .i64 m ∧ s3 = .int .i64 0 ∧ wx = w2)
  case first =>
    have hm := HM.out
    by_cases h : n ≤ 200
    · obtain rfl : m = n := by omega
      have h2 : (m : Int) ≤ 200 := by omega
      clear hm
      go_wp2_with fail
      go_meet
      case rel => exact ⟨rfl, rfl, rfl, rfl⟩
    · obtain rfl : m = 200 := by omega
      have h2 : (200 : Int) < (n : Int) := by omega
      have h3 : (200 : Int) ≤ (cap : Int) := by omega
      clear hm
      go_wp2_with fail
      go_meet
      case rel => exact ⟨rfl, rfl, rfl, rfl⟩
  case rest =>
    obtain ⟨rfl, rfl, rfl, rfl⟩ := hcut
    have hm2 : m ≤ 200 := HM.out.2.1
    clear HM
    go_wp2_with fail
    go_loopw [9, 10, 11, 12, 49] (fun s9 s10 s11 s12 i wr => ∃ (k : Nat) (T R U : Int) (p : Bool) (S C V : Int), k ≤ m ∧ i = .int .i64 k ∧ s9 = .int .i64 T ∧ s10 = .int .i64 R ∧ s11 = .int .i64 U ∧ s12 = .bool p ∧ 0 ≤ T ∧ T ≤ 6 * k ∧ Hid (Mode F R U p S C V) ∧ Hid (Var wr A F O S C V) ∧ Below w.heap.size w wr) (fun _ _ _ _ i _ => m - (intOf i).toNat)
    case atStart => exact ⟨0, 0, 0, -1, false, 0, 0, 0, Nat.zero_le _, rfl, rfl, rfl, rfl, rfl, by omega, by omega, mode_closed (by omega) (by omega), HV0, hB0⟩
    case round =>
      obtain ⟨k, T, R, U, p, S, C, V, hk, rfl, rfl, rfl, rfl, rfl, t0, t1, HMo, HV, hB⟩ := hrel
      clear HV0 hB0
      by_cases hlt : k < m
      · obtain ⟨g, o, rfl, hc⟩ := (HN.out.below hB (Nat.le_refl _)).cell k hlt
        generalize ys.getD k 0 = x at hc
        obtain ⟨D, hD⟩ : ∃ D, (wrap64 ((wrap64 (x.tdiv 4)).tmod 7 + 7)).tmod 7 = D := ⟨_, rfl⟩
        obtain ⟨Q, hQ⟩ : ∃ Q, (wrap64 (x.tmod 4 + 4)).tmod 4 = Q := ⟨_, rfl⟩
        have d0 : 0 ≤ D ∧ D ≤ 6 := by rw [← hD, mod_is (by omega) (by omega)]; omega
        have q0 : Q = 0 ∨ Q = 1 ∨ Q = 2 ∨ Q = 3 := by rw [← hQ, mod_is (by omega) (by omega)]; omega
        obtain ⟨d1, d2⟩ := d0
        rcases HMo.out with ⟨rfl, rfl, rfl, rfl, rfl, r0, r1⟩ | ⟨rfl, rfl, rfl, rfl, rfl, u0, u1⟩ | ⟨rfl, rfl, rfl, rfl, rfl, rfl⟩
        · obtain ⟨c0, c1, c2, c3, c4⟩ := HV.out.at
          rcases q0 with rfl | rfl | rfl | rfl
          ·
            go_wp2_with fail
            with_reducible refine (ask_closed F O R (T + D) _ (ask_mk f1 (by omega) o1 (by omega) (Or.inl ⟨rfl, by omega, by omega, rfl⟩) (by omega) (by omega))).mono ?_
            rintro e w3 ⟨rfl, B3⟩
            obtain ⟨hV, hB3⟩ := kept HV.out hB B3 (.cells #[.int .i64 F, .int .i64 O, .int .i64 0, .int .i64 R, .int .i64 0] 24)
            clear B3
            obtain ⟨a0, a1, a2, a3, a4⟩ := hV.at
            obtain ⟨b0, b1, b2, b3, b4⟩ := hV.frees
            go_wp2_with fail
            go_roundw
            case rel => exact ⟨k + 1, T + D, R, -1, false, 0, R, 0, by omega, by go_num, rfl, rfl, rfl, rfl, by omega, by omega, mode_closed r0 r1, hV.put F O 0 R 0, put_below hB3 hA F O 0 R 0⟩
            case measure => simp [intOf]; omega
          ·
            go_wp2_with fail
            with_reducible refine (ask_closed F O R (T + D) _ (ask_mk f1 (by omega) o1 (by omega) (Or.inl ⟨rfl, by omega, by omega, rfl⟩) (by omega) (by omega))).mono ?_
            rintro e w3 ⟨rfl, B3⟩
            obtain ⟨hV, hB3⟩ := kept HV.out hB B3 (.cells #[.int .i64 F, .int .i64 O, .int .i64 0, .int .i64 R, .int .i64 0] 24)
            clear B3
            obtain ⟨a0, a1, a2, a3, a4⟩ := hV.at
            obtain ⟨b0, b1, b2, b3, b4⟩ := hV.frees
            go_wp2_with fail
            go_roundw
            case rel => exact ⟨k + 1, T + D, R, -1, false, 0, R, 0, by omega, by go_num, rfl, rfl, rfl, rfl, by omega, by omega, mode_closed r0 r1, hV.put F O 0 R 0, put_below hB3 hA F O 0 R 0⟩
            case measure => simp [intOf]; omega
          ·
            go_wp2_with fail
            with_reducible refine (told_settle F O R (T + D) 0 0 true _ (ask_mk f1 (by omega) o1 (by omega) (Or.inl ⟨rfl, by omega, by omega, rfl⟩) (by omega) (by omega)) rfl rfl (by omega) (by omega) (by omega) (fun h => by cases h)).mono ?_
            rintro e w3 ⟨rfl, B3⟩
            obtain ⟨hV, hB3⟩ := kept HV.out hB B3 (.cells #[.int .i64 F, .int .i64 O, .int .i64 0, .int .i64 0, .int .i64 0] 24)
            clear B3
            obtain ⟨a0, a1, a2, a3, a4⟩ := hV.at
            obtain ⟨b0, b1, b2, b3, b4⟩ := hV.frees
            go_wp2_with fail
            go_roundw
            case rel => exact ⟨k + 1, T + D, 0, -1, false, 0, 0, 0, by omega, by go_num, rfl, rfl, rfl, rfl, by omega, by omega, mode_closed (by omega) (by omega), hV.put F O 0 0 0, put_below hB3 hA F O 0 0 0⟩
            case measure => simp [intOf]; omega
          · by_cases hF : R + 1 < F
            · have hF1 : (R + 1 == F) = false := by simp; omega
              go_wp2_with fail
              with_reducible refine (told_count F O R (T + D) _ (ask_mk f1 (by omega) o1 (by omega) (Or.inl ⟨rfl, by omega, by omega, rfl⟩) (by omega) (by omega)) (by omega) hF (by omega)).mono ?_
              rintro e w3 ⟨rfl, B3⟩
              obtain ⟨hV, hB3⟩ := kept HV.out hB B3 (.cells #[.int .i64 F, .int .i64 O, .int .i64 0, .int .i64 (R + 1), .int .i64 0] 24)
              clear B3
              obtain ⟨a0, a1, a2, a3, a4⟩ := hV.at
              obtain ⟨b0, b1, b2, b3, b4⟩ := hV.frees
              go_wp2_with fail
              go_roundw
              case rel => exact ⟨k + 1, T + D, R + 1, -1, false, 0, R + 1, 0, by omega, by go_num, rfl, rfl, rfl, rfl, by omega, by omega, mode_closed (by omega) (by omega), hV.put F O 0 (R + 1) 0, put_below hB3 hA F O 0 (R + 1) 0⟩
              case measure => simp [intOf]; omega
            · have hF1 : (R + 1 == F) = true := by simp; omega
              go_wp2_with fail
              with_reducible refine (told_settle F O R (T + D) 1 (T + D + O) false _ (ask_mk f1 (by omega) o1 (by omega) (Or.inl ⟨rfl, by omega, by omega, rfl⟩) (by omega) (by omega)) rfl (set_open (by omega)) (by omega) (by omega) (by omega) (fun _ => by omega)).mono ?_
              rintro e w3 ⟨rfl, B3⟩
              obtain ⟨hV, hB3⟩ := kept HV.out hB B3 (.cells #[.int .i64 F, .int .i64 O, .int .i64 1, .int .i64 0, .int .i64 (T + D + O)] 24)
              clear B3
              obtain ⟨a0, a1, a2, a3, a4⟩ := hV.at
              obtain ⟨b0, b1, b2, b3, b4⟩ := hV.frees
              go_wp2_with fail
              go_roundw
              case rel => exact ⟨k + 1, T + D, 0, T + D + O, false, 1, 0, T + D + O, by omega, by go_num, rfl, rfl, rfl, rfl, by omega, by omega, mode_open (by omega) (by omega), hV.put F O 1 0 (T + D + O), put_below hB3 hA F O 1 0 (T + D + O)⟩
              case measure => simp [intOf]; omega
        · obtain ⟨c0, c1, c2, c3, c4⟩ := HV.out.at
          rcases q0 with rfl | rfl | rfl | rfl
          · by_cases hF : T + D < U
            ·
              go_wp2_with fail
              with_reducible refine (ask_wait F O U (T + D) _ (ask_mk f1 (by omega) o1 (by omega) (Or.inr (Or.inl ⟨rfl, rfl, by omega, by omega⟩)) (by omega) (by omega)) hF).mono ?_
              rintro e w3 ⟨rfl, B3⟩
              obtain ⟨hV, hB3⟩ := kept HV.out hB B3 (.cells #[.int .i64 F, .int .i64 O, .int .i64 1, .int .i64 0, .int .i64 U] 24)
              clear B3
              obtain ⟨a0, a1, a2, a3, a4⟩ := hV.at
              obtain ⟨b0, b1, b2, b3, b4⟩ := hV.frees
              go_wp2_with fail
              go_roundw
              case rel => exact ⟨k + 1, T + D, 0, U, false, 1, 0, U, by omega, by go_num, rfl, rfl, rfl, rfl, by omega, by omega, mode_open u0 u1, hV.put F O 1 0 U, put_below hB3 hA F O 1 0 U⟩
              case measure => simp [intOf]; omega
            ·
              go_wp2_with fail
              with_reducible refine (ask_come F O U (T + D) _ (ask_mk f1 (by omega) o1 (by omega) (Or.inr (Or.inl ⟨rfl, rfl, by omega, by omega⟩)) (by omega) (by omega)) (by omega)).mono ?_
              rintro e w3 ⟨rfl, B3⟩
              obtain ⟨hV, hB3⟩ := kept HV.out hB B3 (.cells #[.int .i64 F, .int .i64 O, .int .i64 2, .int .i64 0, .int .i64 0] 24)
              clear B3
              obtain ⟨a0, a1, a2, a3, a4⟩ := hV.at
              obtain ⟨b0, b1, b2, b3, b4⟩ := hV.frees
              go_wp2_with fail
              go_roundw
              case rel => exact ⟨k + 1, T + D, 0, -1, true, 2, 0, 0, by omega, by go_num, rfl, rfl, rfl, rfl, by omega, by omega, mode_half, hV.put F O 2 0 0, put_below hB3 hA F O 2 0 0⟩
              case measure => simp [intOf]; omega
          · by_cases hF : T + D < U
            ·
              go_wp2_with fail
              with_reducible refine (ask_wait F O U (T + D) _ (ask_mk f1 (by omega) o1 (by omega) (Or.inr (Or.inl ⟨rfl, rfl, by omega, by omega⟩)) (by omega) (by omega)) hF).mono ?_
              rintro e w3 ⟨rfl, B3⟩
              obtain ⟨hV, hB3⟩ := kept HV.out hB B3 (.cells #[.int .i64 F, .int .i64 O, .int .i64 1, .int .i64 0, .int .i64 U] 24)
              clear B3
              obtain ⟨a0, a1, a2, a3, a4⟩ := hV.at
              obtain ⟨b0, b1, b2, b3, b4⟩ := hV.frees
              go_wp2_with fail
              go_roundw
              case rel => exact ⟨k + 1, T + D, 0, U, false, 1, 0, U, by omega, by go_num, rfl, rfl, rfl, rfl, by omega, by omega, mode_open u0 u1, hV.put F O 1 0 U, put_below hB3 hA F O 1 0 U⟩
              case measure => simp [intOf]; omega
            ·
              go_wp2_with fail
              with_reducible refine (ask_come F O U (T + D) _ (ask_mk f1 (by omega) o1 (by omega) (Or.inr (Or.inl ⟨rfl, rfl, by omega, by omega⟩)) (by omega) (by omega)) (by omega)).mono ?_
              rintro e w3 ⟨rfl, B3⟩
              obtain ⟨hV, hB3⟩ := kept HV.out hB B3 (.cells #[.int .i64 F, .int .i64 O, .int .i64 2, .int .i64 0, .int .i64 0] 24)
              clear B3
              obtain ⟨a0, a1, a2, a3, a4⟩ := hV.at
              obtain ⟨b0, b1, b2, b3, b4⟩ := hV.frees
              go_wp2_with fail
              go_roundw
              case rel => exact ⟨k + 1, T + D, 0, -1, true, 2, 0, 0, by omega, by go_num, rfl, rfl, rfl, rfl, by omega, by omega, mode_half, hV.put F O 2 0 0, put_below hB3 hA F O 2 0 0⟩
              case measure => simp [intOf]; omega
          ·
            go_wp2_with fail
            with_reducible refine (told_open F O U (T + D) true _ (ask_mk f1 (by omega) o1 (by omega) (Or.inr (Or.inl ⟨rfl, rfl, by omega, by omega⟩)) (by omega) (by omega))).mono ?_
            rintro e w3 ⟨rfl, B3⟩
            obtain ⟨hV, hB3⟩ := kept HV.out hB B3 (.cells #[.int .i64 0, .int .i64 0, .int .i64 0, .int .i64 0, .int .i64 0] 24)
            clear B3
            go_wp2_with fail
            go_roundw
            case rel => exact ⟨k + 1, T + D, 0, U, false, 1, 0, U, by omega, by go_num, rfl, rfl, rfl, rfl, by omega, by omega, mode_open u0 u1, hV, hB3⟩
            case measure => simp [intOf]; omega
          ·
            go_wp2_with fail
            with_reducible refine (told_open F O U (T + D) false _ (ask_mk f1 (by omega) o1 (by omega) (Or.inr (Or.inl ⟨rfl, rfl, by omega, by omega⟩)) (by omega) (by omega))).mono ?_
            rintro e w3 ⟨rfl, B3⟩
            obtain ⟨hV, hB3⟩ := kept HV.out hB B3 (.cells #[.int .i64 0, .int .i64 0, .int .i64 0, .int .i64 0, .int .i64 0] 24)
            clear B3
            go_wp2_with fail
            go_roundw
            case rel => exact ⟨k + 1, T + D, 0, U, false, 1, 0, U, by omega, by go_num, rfl, rfl, rfl, rfl, by omega, by omega, mode_open u0 u1, hV, hB3⟩
            case measure => simp [intOf]; omega
        · obtain ⟨c0, c1, c2, c3, c4⟩ := HV.out.at
          rcases q0 with rfl | rfl | rfl | rfl
          ·
            go_wp2_with fail
            with_reducible refine (ask_half F O (T + D) _ (ask_mk f1 (by omega) o1 (by omega) (Or.inr (Or.inr ⟨rfl, rfl, rfl⟩)) (by omega) (by omega))).mono ?_
            rintro e w3 ⟨rfl, B3⟩
            obtain ⟨hV, hB3⟩ := kept HV.out hB B3 (.cells #[.int .i64 F, .int .i64 O, .int .i64 2, .int .i64 0, .int .i64 0] 24)
            clear B3
            obtain ⟨a0, a1, a2, a3, a4⟩ := hV.at
            obtain ⟨b0, b1, b2, b3, b4⟩ := hV.frees
            go_wp2_with fail
            go_roundw
            case rel => exact ⟨k + 1, T + D, 0, -1, true, 2, 0, 0, by omega, by go_num, rfl, rfl, rfl, rfl, by omega, by omega, mode_half, hV.put F O 2 0 0, put_below hB3 hA F O 2 0 0⟩
            case measure => simp [intOf]; omega
          ·
            go_wp2_with fail
            with_reducible refine (ask_half F O (T + D) _ (ask_mk f1 (by omega) o1 (by omega) (Or.inr (Or.inr ⟨rfl, rfl, rfl⟩)) (by omega) (by omega))).mono ?_
            rintro e w3 ⟨rfl, B3⟩
            obtain ⟨hV, hB3⟩ := kept HV.out hB B3 (.cells #[.int .i64 F, .int .i64 O, .int .i64 2, .int .i64 0, .int .i64 0] 24)
            clear B3
            obtain ⟨a0, a1, a2, a3, a4⟩ := hV.at
            obtain ⟨b0, b1, b2, b3, b4⟩ := hV.frees
            go_wp2_with fail
            go_roundw
            case rel => exact ⟨k + 1, T + D, 0, -1, true, 2, 0, 0, by omega, by go_num, rfl, rfl, rfl, rfl, by omega, by omega, mode_half, hV.put F O 2 0 0, put_below hB3 hA F O 2 0 0⟩
            case measure => simp [intOf]; omega
          ·
            go_wp2_with fail
            with_reducible refine (told_half F O (T + D) 0 0 true _ (ask_mk f1 (by omega) o1 (by omega) (Or.inr (Or.inr ⟨rfl, rfl, rfl⟩)) (by omega) (by omega)) rfl rfl).mono ?_
            rintro e w3 ⟨rfl, B3⟩
            obtain ⟨hV, hB3⟩ := kept HV.out hB B3 (.cells #[.int .i64 F, .int .i64 O, .int .i64 0, .int .i64 0, .int .i64 0] 24)
            clear B3
            obtain ⟨a0, a1, a2, a3, a4⟩ := hV.at
            obtain ⟨b0, b1, b2, b3, b4⟩ := hV.frees
            go_wp2_with fail
            go_roundw
            case rel => exact ⟨k + 1, T + D, 0, -1, false, 0, 0, 0, by omega, by go_num, rfl, rfl, rfl, rfl, by omega, by omega, mode_closed (by omega) (by omega), hV.put F O 0 0 0, put_below hB3 hA F O 0 0 0⟩
            case measure => simp [intOf]; omega
          ·
            go_wp2_with fail
            with_reducible refine (told_half F O (T + D) 1 (T + D + O) false _ (ask_mk f1 (by omega) o1 (by omega) (Or.inr (Or.inr ⟨rfl, rfl, rfl⟩)) (by omega) (by omega)) rfl (set_open (by omega))).mono ?_
            rintro e w3 ⟨rfl, B3⟩
            obtain ⟨hV, hB3⟩ := kept HV.out hB B3 (.cells #[.int .i64 F, .int .i64 O, .int .i64 1, .int .i64 0, .int .i64 (T + D + O)] 24)
            clear B3
            obtain ⟨a0, a1, a2, a3, a4⟩ := hV.at
            obtain ⟨b0, b1, b2, b3, b4⟩ := hV.frees
            go_wp2_with fail
            go_roundw
            case rel => exact ⟨k + 1, T + D, 0, T + D + O, false, 1, 0, T + D + O, by omega, by go_num, rfl, rfl, rfl, rfl, by omega, by omega, mode_open (by omega) (by omega), hV.put F O 1 0 (T + D + O), put_below hB3 hA F O 1 0 (T + D + O)⟩
            case measure => simp [intOf]; omega
      · obtain rfl : k = m := by omega
        go_wp2_with fail
        go_ret
        exact ⟨rfl, hB⟩
end Brk
end Go.Proofs.Ytcmnmmdhipkibaa
