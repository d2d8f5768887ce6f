/-
  Filled on the way it is as filled at once; at the time that is told next one can be taken, and at no time ahead of it: the law's walk.
-/
import Derived.Test.YtmnnohogbgjkcaaBkt8
import Derived.Deep.DeepCutAuto
import Derived.Deep.QuietTactic
namespace Go.Proofs.Ytmnnohogbgjkcaa
open Go.RowKit
set_option linter.unusedVariables false

namespace Bkt
/-- what the law's calls tell -/
theorem parts_facts (B E H p q : Int) (hb : Bk B E H 0) (hE : E ≤ 20) (p0 : 0 ≤ p) (pq : p ≤ q) (q1 : q ≤ 199) :
    ∃ h1 t1 h2 t2 n l1 u1 l2 : Int,
      (∀ w, Calls Try.prog 8 #[val B E H 0, .int .i64 p] w fun e w' => e = .returned (.tuple #[val B E h1 t1, .int .i64 0]) ∧ Below w.heap.size w w') ∧
      (∀ w, Calls Try.prog 8 #[val B E h1 t1, .int .i64 q] w fun e w' => e = .returned (.tuple #[val B E h2 t2, .int .i64 0]) ∧ Below w.heap.size w w') ∧
      (∀ w, Calls Try.prog 8 #[val B E H 0, .int .i64 q] w fun e w' => e = .returned (.tuple #[val B E h2 t2, .int .i64 0]) ∧ Below w.heap.size w w') ∧
      (∀ w, Calls Try.prog 9 #[val B E h1 t1, .int .i64 p] w fun e w' => e = .returned (.tuple #[.int .i64 n, .int .i64 0]) ∧ Below w.heap.size w w') ∧
      (∀ w, Calls Try.prog 7 #[val B E h1 t1, .int .i64 n] w fun e w' => e = .returned (.tuple #[val B E l1 u1, .bool true, .int .i64 0]) ∧ Below w.heap.size w w') ∧
      (∀ k w, p ≤ k → k < n → Calls Try.prog 7 #[val B E h1 t1, .int .i64 k] w fun e w' => (∃ u, e = .returned (.tuple #[val B E 0 u, .bool false, .int .i64 0])) ∧ Below w.heap.size w w') ∧
      p ≤ n ∧ n ≤ 1000 ∧
      ((n ≤ q ∧ ∀ w, Calls Try.prog 7 #[val B E h2 t2, .int .i64 q] w fun e w' => e = .returned (.tuple #[val B E l2 t2, .bool true, .int .i64 0]) ∧ Below w.heap.size w w') ∨
       (q < n ∧ ∀ w, Calls Try.prog 7 #[val B E h2 t2, .int .i64 q] w fun e w' => e = .returned (.tuple #[val B E l2 t2, .bool false, .int .i64 0]) ∧ Below w.heap.size w w')) := by
  obtain ⟨r1, le1⟩ := fill_right hb p0 (show p ≤ 1099511627776 by omega)
  obtain ⟨r2, le2⟩ := fill_right hb (show 0 ≤ q by omega) (show q ≤ 1099511627776 by omega)
  obtain ⟨tw1, tw2⟩ := fill_twice hb p0 pq
  obtain ⟨sp1, sp2⟩ := fill_same hb p0
  obtain ⟨sq1, sq2⟩ := fill_same hb (show 0 ≤ q by omega)
  have ew := empty_wait hb p0
  have F1 := fun w => fill_any B E H 0 p w hb p0 (by omega)
  have F3 := fun w => fill_any B E H 0 q w hb (by omega) (by omega)
  generalize fH B E H 0 p = h1 at *
  generalize fT B E H 0 p = t1 at *
  generalize fH B E H 0 q = h2 at *
  generalize fT B E H 0 q = t2 at *
  have b1 := r1.b1
  have e1 := r1.e1
  have f1 := r1.h1
  have f2 := r1.t1
  have f3 := r1.t2
  have f4 := r2.h1
  have F2 := fun w => fill_is B E h1 t1 q h2 t2 w r1 (by omega) (by omega) tw1.symm tw2.symm
  have NX := fun w => next_is B E h1 t1 p h1 t1 (nextT E p h1 t1) w r1 le1 (by omega) sp1.symm sp2.symm rfl
  have TL := fun r w hr => take_is B E h2 t2 q h2 t2 (left h2) r w r2 le2 (by omega) sq1.symm sq2.symm rfl hr
  by_cases hp : 0 < h1
  · have hn : nextT E p h1 t1 = p := by unfold nextT; rw [if_pos hp]
    have T1 := fun w => take_is B E h1 t1 p h1 t1 (left h1) true w r1 le1 (by omega) sp1.symm sp2.symm rfl (by unfold yesB; exact (decide_eq_true hp).symm)
    have hq : 0 < h2 := by rw [← tw1]; exact some_later b1 e1 hp (by omega)
    rw [hn] at NX
    exact ⟨h1, t1, h2, t2, p, left h1, t1, left h2, F1, F2, F3, NX, T1, fun k w hk hl => absurd hl (by omega), by omega, by omega, .inl ⟨pq, fun w => TL true w (by unfold yesB; exact (decide_eq_true hq).symm)⟩⟩
  · obtain rfl : h1 = 0 := by omega
    have ew := ew rfl
    have hn : nextT E p 0 t1 = t1 + E := by
      unfold nextT addT
      rw [if_neg hp, if_neg (by omega)]
    rw [hn] at NX
    have T1 := fun w => take_is B E 0 t1 (t1 + E) _ _ _ true w r1 (by omega) (by omega) rfl rfl rfl (by unfold yesB; exact (decide_eq_true ((empty_next b1 e1 (by omega)).2 (by omega))).symm)
    have TK : ∀ k w, p ≤ k → k < t1 + E → Calls Try.prog 7 #[val B E 0 t1, .int .i64 k] w fun e w' => (∃ u, e = .returned (.tuple #[val B E 0 u, .bool false, .int .i64 0])) ∧ Below w.heap.size w w' := by
      intro k w hk hl
      have hz : ¬ 0 < fH B E 0 t1 k := fun hc => by have := (empty_next b1 e1 (by omega)).1 hc; omega
      refine (take_is B E 0 t1 k _ _ 0 false w r1 (by omega) (by omega) rfl rfl (by unfold left; rw [if_neg hz]) (by unfold yesB; exact (decide_eq_false hz).symm)).mono ?_
      rintro e w' ⟨rfl, hB⟩
      exact ⟨⟨_, rfl⟩, hB⟩
    have hq := empty_next (B := B) (E := E) (T := t1) (k := q) b1 e1 (by omega)
    rw [tw1] at hq
    refine ⟨0, t1, h2, t2, t1 + E, _, _, left h2, F1, F2, F3, NX, T1, TK, by omega, by omega, ?_⟩
    by_cases hc : t1 + E ≤ q
    · exact .inl ⟨hc, fun w => TL true w (by unfold yesB; exact (decide_eq_true (hq.2 hc)).symm)⟩
    · exact .inr ⟨by omega, fun w => TL false w (by unfold yesB; exact (decide_eq_false (fun h => hc (hq.1 h))).symm)⟩

/-- a variable and what grew, behind a call and what it tells laid down -/
theorem kept {wr w1 : World} {A : Nat} {B E H T : Int} (hV : Var wr A B E H T) (B1 : Below wr.heap.size wr w1) (o : Obj) : Var (w1.alloc o) A B E H T :=
  (hV.keep B1 (Nat.le_refl _)).alloc o
theorem grown {w wr w1 : World} (hB : Below w.heap.size w wr) (B1 : Below wr.heap.size wr w1) (o : Obj) : Below w.heap.size w (w1.alloc o) :=
  (hB.trans (B1.mono hB.size)).alloc (Nat.le_trans hB.size B1.size) o
theorem grown0 {w wr w1 : World} (hB : Below w.heap.size w wr) (B1 : Below wr.heap.size wr w1) : Below w.heap.size w w1 :=
  hB.trans (B1.mono hB.size)
set_option maxHeartbeats 8000000 in
set_option maxRecDepth 100000 in
theorem walkP (b e h x y : Int) (w : World) :
    Calls Try.prog 4 #[.int .i64 b, .int .i64 e, .int .i64 h, .int .i64 x, .int .i64 y] w fun e w' => e = .returned (.bool true) ∧ Below w.heap.size w w' := by
  obtain ⟨P, hP⟩ : ∃ P, (wrap64 (x.tmod 200 + 200)).tmod 200 = P := ⟨_, rfl⟩
  obtain ⟨Q, hQ⟩ : ∃ Q, (wrap64 (y.tmod 200 + 200)).tmod 200 = Q := ⟨_, rfl⟩
  have f0 : 0 ≤ P ∧ P < 200 := by rw [← hP]; exact mod_bounds (by omega) (by omega)
  have g0 : 0 ≤ Q ∧ Q < 200 := by rw [← hQ]; exact mod_bounds (by omega) (by omega)
  obtain ⟨f1, f2⟩ := f0
  obtain ⟨g1, g2⟩ := g0
  go_enter Try.func4, Try.ntmps4
  go_wp2_with fail
  refine (some_any _ _ _ _).mono ?_
  rintro r w1 ⟨B, E, H, rfl, b1, b2, e1, e2, h1, h2, B1⟩
  have V0 := Lib.hid (Var.new w1 B E H 0)
  have BB := Lib.hid (B1.alloc B1.size (.cells #[.int .i64 B, .int .i64 E, .int .i64 H, .int .i64 0] 24))
  clear B1
  go_upto_if 48 with fail
  obtain ⟨w2, hw2⟩ : ∃ w2, w2 = w1.alloc (.cells #[.int .i64 B, .int .i64 E, .int .i64 H, .int .i64 0] 24) := ⟨_, rfl⟩
  rw [← hw2] at V0 BB
  rw [← hw2]
  generalize w1.heap.size = A at *
  clear hw2 hP hQ w1
  go_cut [3, 4] (fun s3 s4 wx => ∃ p q : Int, s3 = .int .i64 p ∧ s4 = .int .i64 q ∧ 0 ≤ p ∧ p ≤ q ∧ q ≤ 199 ∧ wx = w2)
  case first =>
    by_cases hc : Q < P
    · go_wp2_with fail
      go_meet
      case rel => exact ⟨Q, P, rfl, rfl, g1, by omega, by omega, rfl⟩
    · go_wp2_with fail
      go_meet
      case rel => exact ⟨P, Q, rfl, rfl, f1, by omega, by omega, rfl⟩
  case rest =>
    obtain ⟨p, q, rfl, rfl, p0, pq, q1, rfl⟩ := hcut
    clear f1 f2 g1 g2
    obtain ⟨h1, t1, h2, t2, n, l1, u1, l2, F1, F2, F3, NX, T1, TK, n0, n1, TL⟩ := parts_facts B E H p q ⟨b1, by omega, e1, by omega, by omega, by omega, by omega, by omega⟩ e2 p0 pq q1
    have HTL := Lib.hid TL
    clear TL
    obtain ⟨a0, a1, a2, a3⟩ := V0.out.at
    go_wp2_with fail
    refine (F1 _).mono ?_
    rintro r w3 ⟨rfl, B1⟩
    replace V0 := Lib.hid (kept V0.out B1 (.cells #[.int .i64 B, .int .i64 E, .int .i64 h1, .int .i64 t1] 24))
    replace BB := Lib.hid (grown BB.out B1 (.cells #[.int .i64 B, .int .i64 E, .int .i64 h1, .int .i64 t1] 24))
    have V1 := Lib.hid (Var.new w3 B E h1 t1)
    clear B1 a0 a1 a2 a3
    obtain ⟨a0, a1, a2, a3⟩ := V1.out.at
    go_wp2_with fail
    refine (F2 _).mono ?_
    rintro r w4 ⟨rfl, B1⟩
    replace V0 := Lib.hid (kept V0.out B1 (.cells #[.int .i64 B, .int .i64 E, .int .i64 h2, .int .i64 t2] 24))
    replace V1 := Lib.hid (kept V1.out B1 (.cells #[.int .i64 B, .int .i64 E, .int .i64 h2, .int .i64 t2] 24))
    replace BB := Lib.hid (grown BB.out B1 (.cells #[.int .i64 B, .int .i64 E, .int .i64 h2, .int .i64 t2] 24))
    have V2 := Lib.hid (Var.new w4 B E h2 t2)
    clear B1 a0 a1 a2 a3
    obtain ⟨a0, a1, a2, a3⟩ := V0.out.at
    go_wp2_with fail
    refine (F3 _).mono ?_
    rintro r w5 ⟨rfl, B1⟩
    replace V1 := Lib.hid (kept V1.out B1 (.cells #[.int .i64 B, .int .i64 E, .int .i64 h2, .int .i64 t2] 24))
    replace V2 := Lib.hid (kept V2.out B1 (.cells #[.int .i64 B, .int .i64 E, .int .i64 h2, .int .i64 t2] 24))
    replace BB := Lib.hid (grown BB.out B1 (.cells #[.int .i64 B, .int .i64 E, .int .i64 h2, .int .i64 t2] 24))
    have V3 := Lib.hid (Var.new w5 B E h2 t2)
    clear B1 a0 a1 a2 a3 V0
    obtain ⟨a0, a1, a2, a3⟩ := V1.out.at
    go_wp2_with fail
    refine (NX _).mono ?_
    rintro r w6 ⟨rfl, B1⟩
    replace V1 := Lib.hid (V1.out.keep B1 (Nat.le_refl _))
    replace V2 := Lib.hid (V2.out.keep B1 (Nat.le_refl _))
    replace V3 := Lib.hid (V3.out.keep B1 (Nat.le_refl _))
    replace BB := Lib.hid (grown0 BB.out B1)
    clear B1 a0 a1 a2 a3
    obtain ⟨a0, a1, a2, a3⟩ := V2.out.at
    obtain ⟨c0, c1, c2, c3⟩ := V3.out.at
    go_wp2_with fail
    refine (alive8 _).mono ?_
    rintro r w7 ⟨rfl, B1⟩
    replace V1 := Lib.hid (V1.out.keep B1 (Nat.le_refl _))
    replace V2 := Lib.hid (V2.out.keep B1 (Nat.le_refl _))
    replace BB := Lib.hid (grown0 BB.out B1)
    clear B1 a0 a1 a2 a3 c0 c1 c2 c3 V3
    obtain ⟨a0, a1, a2, a3⟩ := V1.out.at
    go_wp2_with fail
    refine (T1 _).mono ?_
    rintro r w8 ⟨rfl, B1⟩
    replace V1 := Lib.hid (kept V1.out B1 (.cells #[.int .i64 B, .int .i64 E, .int .i64 l1, .int .i64 u1] 24))
    replace V2 := Lib.hid (kept V2.out B1 (.cells #[.int .i64 B, .int .i64 E, .int .i64 l1, .int .i64 u1] 24))
    replace BB := Lib.hid (grown BB.out B1 (.cells #[.int .i64 B, .int .i64 E, .int .i64 l1, .int .i64 u1] 24))
    clear B1 a0 a1 a2 a3
    go_wp2_with fail
    clear F1 F2 F3 NX T1
    generalize w3.heap.size = A1 at *
    generalize w4.heap.size = A2 at *
    go_loopw [24] (fun s wr => ∃ k : Int, s = .int .i64 k ∧ p ≤ k ∧ k ≤ n ∧ Hid (Var wr A1 B E h1 t1) ∧ Hid (Var wr A2 B E h2 t2) ∧ Hid (Below w.heap.size w wr)) (fun s _ => (n - intOf s).toNat)
    case atStart => exact ⟨p, rfl, by omega, n0, V1, V2, BB⟩
    case round =>
      clear V1 V2 BB
      obtain ⟨k, rfl, k0, k1, V1, V2, BB⟩ := hrel
      by_cases hk : k < n
      · obtain ⟨a0, a1, a2, a3⟩ := V1.out.at
        go_wp2_with fail
        refine (TK k _ k0 hk).mono ?_
        rintro r w9 ⟨⟨u, rfl⟩, B1⟩
        replace V1 := Lib.hid (kept V1.out B1 (.cells #[.int .i64 B, .int .i64 E, .int .i64 0, .int .i64 u] 24))
        replace V2 := Lib.hid (kept V2.out B1 (.cells #[.int .i64 B, .int .i64 E, .int .i64 0, .int .i64 u] 24))
        replace BB := Lib.hid (grown BB.out B1 (.cells #[.int .i64 B, .int .i64 E, .int .i64 0, .int .i64 u] 24))
        clear B1 a0 a1 a2 a3
        go_wp2_with fail
        go_roundw
        case rel => exact ⟨k + 1, rfl, by omega, by omega, V1, V2, BB⟩
        case measure => simp only [intOf]; omega
      · obtain ⟨a0, a1, a2, a3⟩ := V2.out.at
        rcases HTL.out with ⟨hq, TL⟩ | ⟨hq, TL⟩
        · go_wp2_with fail
          refine (TL _).mono ?_
          rintro r w9 ⟨rfl, B1⟩
          replace BB := Lib.hid (grown BB.out B1 (.cells #[.int .i64 B, .int .i64 E, .int .i64 l2, .int .i64 t2] 24))
          clear B1 a0 a1 a2 a3
          go_wp2
          go_ret
          exact ⟨rfl, BB.out⟩
        · go_wp2_with fail
          refine (TL _).mono ?_
          rintro r w9 ⟨rfl, B1⟩
          replace BB := Lib.hid (grown BB.out B1 (.cells #[.int .i64 B, .int .i64 E, .int .i64 l2, .int .i64 t2] 24))
          clear B1 a0 a1 a2 a3
          go_wp2
          go_ret
          exact ⟨retB (by rw [decide_eq_false (show ¬ n ≤ q by omega)]; rfl), BB.out⟩
end Bkt
end Go.Proofs.Ytmnnohogbgjkcaa
