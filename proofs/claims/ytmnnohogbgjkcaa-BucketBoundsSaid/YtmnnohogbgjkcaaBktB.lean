/-
  Whatever is asked for, within any ticks so many are taken at most as the burst, and how often Every goes into these: the law's walk.
-/
import Derived.Test.YtmnnohogbgjkcaaBkt8
import Derived.Test.YtmnnohogbgjkcaaNRow
import Derived.Deep.DeepCutAuto
import Derived.Deep.QuietTactic
namespace Go.Proofs.Ytmnnohogbgjkcaa
open Go.RowKit
set_option linter.unusedVariables false

namespace Bkt
/-- where the law is ahead of round k: the bucket, the time, the times at which one was taken -/
structure St (B E H Tb T : Int) (ts : List Int) (k : Nat) : Prop where
  bk : Bk B E H Tb
  le : Tb ≤ T
  t0 : 0 ≤ T
  t1 : T ≤ 8 * k
  good : Good B E ts T
  pot : Pot B E H Tb ts
  few : ts.length ≤ k
theorem st_start {B E H : Int} (h : Bk B E H 0) : St B E H 0 0 [] 0 :=
  ⟨h, Int.le_refl _, Int.le_refl _, by omega, good_nil _ _ _, pot_nil _ _ _ _, Nat.le_refl _⟩
theorem St.yes {B E H Tb T D : Int} {ts : List Int} {k : Nat} (h : St B E H Tb T ts k) (hk : k < 200) (d0 : 0 ≤ D) (d1 : D ≤ 8) (hp : 0 < fH B E H Tb (T + D)) :
    St B E (fH B E H Tb (T + D) - 1) (fT B E H Tb (T + D)) (T + D) (ts ++ [T + D]) (k + 1) := by
  have := h.t0
  have := h.t1
  have := h.le
  obtain ⟨r, hl⟩ := fill_right h.bk (show Tb ≤ T + D by omega) (by omega)
  have hf := fill_phi h.bk (show Tb ≤ T + D by omega)
  have ht := fill_top h.bk (show Tb ≤ T + D by omega)
  have hP := pot_less h.pot hf
  have hG := good_later h.good (show T ≤ T + D by omega)
  obtain ⟨b1, b2, e1, e2, H1, H2, t1, t2⟩ := r
  exact ⟨⟨b1, b2, e1, e2, by omega, by omega, t1, t2⟩, hl, by omega, by omega, good_next hG hP ht (by omega) e1 hl (by omega) b1, pot_next hP ht, by rw [List.length_append, List.length_singleton]; have := h.few; omega⟩
theorem St.no {B E H Tb T D : Int} {ts : List Int} {k : Nat} (h : St B E H Tb T ts k) (hk : k < 200) (d0 : 0 ≤ D) (d1 : D ≤ 8) (hp : ¬ 0 < fH B E H Tb (T + D)) :
    St B E 0 (fT B E H Tb (T + D)) (T + D) ts (k + 1) := by
  have := h.t0
  have := h.t1
  have := h.le
  obtain ⟨r, hl⟩ := fill_right h.bk (show Tb ≤ T + D by omega) (by omega)
  have hf := fill_phi h.bk (show Tb ≤ T + D by omega)
  have hP := pot_less h.pot hf
  have hG := good_later h.good (show T ≤ T + D by omega)
  have hz : fH B E H Tb (T + D) = 0 := by have := r.h1; omega
  rw [hz] at r hP
  exact ⟨r, hl, by omega, by omega, hG, hP, by have := h.few; omega⟩
theorem St.take_yes {B E H Tb T D h t : Int} {ts : List Int} {k : Nat} (s : St B E H Tb T ts k) (hk : k < 200) (d0 : 0 ≤ D) (d1 : D ≤ 8) (hh : fH B E H Tb (T + D) = h) (ht : fT B E H Tb (T + D) = t) (hp : 0 < h) (w : World) :
    Calls Try.prog 7 #[val B E H Tb, .int .i64 (T + D)] w fun e w' => e = .returned (.tuple #[val B E (h - 1) t, .bool true, .int .i64 0]) ∧ Below w.heap.size w w' := by
  have := s.t0
  have := s.t1
  have := s.le
  exact take_is B E H Tb (T + D) h t (h - 1) true w s.bk (by omega) (by omega) hh.symm ht.symm (by unfold left; rw [if_pos hp]) (by unfold yesB; exact (decide_eq_true hp).symm)
theorem St.take_no {B E H Tb T D h t : Int} {ts : List Int} {k : Nat} (s : St B E H Tb T ts k) (hk : k < 200) (d0 : 0 ≤ D) (d1 : D ≤ 8) (hh : fH B E H Tb (T + D) = h) (ht : fT B E H Tb (T + D) = t) (hp : ¬ 0 < h) (w : World) :
    Calls Try.prog 7 #[val B E H Tb, .int .i64 (T + D)] w fun e w' => e = .returned (.tuple #[val B E 0 t, .bool false, .int .i64 0]) ∧ Below w.heap.size w w' := by
  have := s.t0
  have := s.t1
  have := s.le
  exact take_is B E H Tb (T + D) h t 0 false w s.bk (by omega) (by omega) hh.symm ht.symm (by unfold left; rw [if_neg hp]) (by unfold yesB; exact (decide_eq_false hp).symm)
theorem ns_cut8 {w : World} {oa : Option Addr} {n cap : Nat} {xs : List Int} (h : Ns w oa n cap xs) (m : Nat) (hm : m ≤ n) : Ns w oa m cap (xs.take m) := by
  refine ⟨by rw [List.length_take]; have := h.len; omega, by have := h.room; omega, fun i hi => ?_⟩
  obtain ⟨g, o, hg, hc⟩ := h.cell i (by omega)
  refine ⟨g, o, hg, ?_⟩
  rw [hc, List.getD_eq_getElem?_getD, List.getD_eq_getElem?_getD, List.getElem?_take_of_lt hi]
theorem grownB {w wr w1 : World} (hB : Below w.heap.size w wr) (B1 : Below wr.heap.size wr w1) (o : Obj) : Below w.heap.size w (w1.alloc o) :=
  (hB.trans (B1.mono hB.size)).alloc (Nat.le_trans hB.size B1.size) o
theorem below_drewN8 {B : Nat} {a w : World} (h : Below B a w) (n : Nat) : Below B a (w.drewN n) := ⟨h.os, h.tape, h.output, h.size, h.block⟩
theorem ns_drewN {w : World} {oa : Option Addr} {n cap : Nat} {xs : List Int} (h : Ns w oa n cap xs) (q : Nat) : Ns (w.drewN q) oa n cap xs := ⟨h.len, h.room, h.cell⟩
set_option maxHeartbeats 1600000 in
set_option maxRecDepth 100000 in
theorem walkB (b e h : Int) (oa : Option Addr) (n cap : Nat) (xs : List Int) (w : World) (hN : Ns w oa n cap xs) (hcap : cap ≤ maxLen) :
    Calls Try.prog 3 #[.int .i64 b, .int .i64 e, .int .i64 h, .slice oa n cap] w fun e w' => e = .returned (.bool true) ∧ Below w.heap.size w w' := by
  obtain ⟨i0, hi, hz0, hz1, hz2⟩ := info_parts infoInt
  unfold maxLen at hcap
  have hroom := hN.room
  obtain ⟨m, HM⟩ : ∃ m, Hid (m ≤ n ∧ m ≤ 200 ∧ (n ≤ 200 → m = n) ∧ (200 < n → m = 200)) := by
    by_cases h : n ≤ 200
    · exact ⟨n, by omega, by omega, fun _ => rfl, fun h' => by omega⟩
    · exact ⟨200, by omega, by omega, fun h' => by omega, fun _ => rfl⟩
  have N0 := ns_cut8 hN m HM.out.1
  generalize xs.take m = ys at N0
  have HN := Lib.hid N0
  clear hN N0
  go_enter Try.func3, Try.ntmps3
  go_wp2_with fail
  refine (some_any _ _ _ _).mono ?_
  rintro r w1 ⟨B, E, H, rfl, b1, b2, e1, e2, h1, h2, B1⟩
  have V0 := Lib.hid (Var.new w1 B E H 0)
  have BB := Lib.hid (B1.alloc B1.size (.cells #[.int .i64 B, .int .i64 E, .int .i64 H, .int .i64 0] 24))
  have hA : w.heap.size ≤ w1.heap.size := B1.size
  clear B1
  have S0 := Lib.hid (st_start (B := B) (E := E) (H := H) ⟨b1, by omega, e1, by omega, h1, h2, by omega, by omega⟩)
  clear h1 h2
  go_wp2_with fail
  refine (alive8 _).mono ?_
  rintro r w2 ⟨rfl, B1⟩
  replace V0 := Lib.hid (V0.out.keep B1 (Nat.le_refl _))
  replace BB := Lib.hid (BB.out.trans (B1.mono BB.out.size))
  clear B1
  generalize w1.heap.size = A at *
  go_upto_region 6 with fail
  go_cut [38, 39, 40] (fun s1 s2 s3 wx => s1 = .slice oa m cap ∧ s2 = .int .i64 m ∧ s3 = .int .i64 0 ∧ wx = w2)
  case first =>
    have hm := HM.out
    by_cases h : n ≤ 200
    · obtain rfl : m = n := by omega
      have h2 : (m : Int) ≤ 200 := by omega
      clear hm
      go_wp2_with fail
      go_meet
      case rel => exact ⟨rfl, rfl, rfl, rfl⟩
    · obtain rfl : m = 200 := by omega
      have h2 : (200 : Int) < (n : Int) := by omega
      have h3 : (200 : Int) ≤ (cap : Int) := by omega
      clear hm
      go_wp2_with fail
      go_meet
      case rel => exact ⟨rfl, rfl, rfl, rfl⟩
  case rest =>
    obtain ⟨rfl, rfl, rfl, rfl⟩ := hcut
    have hm2 : m ≤ 200 := HM.out.2.1
    clear HM
    have hAC := V0.out.lt
    obtain ⟨C, hC⟩ : ∃ C, C = wc.heap.size := ⟨_, rfl⟩
    rw [← hC] at hAC
    have hC1 : C ≤ wc.heap.size := by omega
    clear hC
    go_wp2_with fail
    go_loopw [11, 12, 40] (fun s11 s12 i wr => ∃ (k : Nat) (T H Tb : Int) (ts : List Int) (v : Value), v = s12 ∧ k ≤ m ∧ i = .int .i64 k ∧ s11 = .int .i64 T ∧ Hid (St B E H Tb T ts k) ∧ wr.ownsRow C 3 1 v ts.length (nCells ts) ∧ Hid (Var wr A B E H Tb) ∧ Hid (Below w.heap.size w wr) ∧ Hid (C ≤ wr.heap.size) ∧ 0 ≤ T ∧ T ≤ 1600) (fun _ _ i _ => m - (intOf i).toNat)
    case atStart => exact ⟨0, 0, H, 0, [], _, rfl, Nat.zero_le _, rfl, rfl, S0, World.ownsRow_nil _ _ _ _, V0, BB, hC1, by omega, by omega⟩
    case round =>
      clear V0 BB S0 hC1
      obtain ⟨k, T, H, Tb, ts, v, rfl, hk, rfl, rfl, S, hown, V, BB, HC, t0, t1⟩ := hrel
      by_cases hlt : k < m
      · obtain ⟨g, o, rfl, hc⟩ := (HN.out.below BB.out (Nat.le_refl _)).cell k hlt
        generalize ys.getD k 0 = x at hc
        obtain ⟨D, hD⟩ : ∃ D, (wrap64 (x.tmod 9 + 9)).tmod 9 = D := ⟨_, rfl⟩
        have d0 : 0 ≤ D ∧ D < 9 := by rw [← hD]; exact mod_bounds (by omega) (by omega)
        obtain ⟨d1, d2⟩ := d0
        have U1 := fun hp => S.out.yes (D := D) (by omega) d1 (by omega) hp
        have U2 := fun hp => S.out.no (D := D) (by omega) d1 (by omega) hp
        have K1 := fun hp w => S.out.take_yes (D := D) (by omega) d1 (by omega) rfl rfl hp w
        have K2 := fun hp w => S.out.take_no (D := D) (by omega) d1 (by omega) rfl rfl hp w
        generalize fH B E H Tb (T + D) = h at *
        generalize fT B E H Tb (T + D) = t at *
        obtain ⟨c0, c1, c2, c3⟩ := V.out.at
        by_cases hp : 0 < h
        · have W1 := Lib.hid (U1 hp)
          have J1 := K1 hp
          clear U1 U2 K1 K2
          go_wp2_with fail
          with_reducible refine (J1 _).mono ?_
          rintro r w3 ⟨rfl, B1⟩
          have V3 := (V.out.keep B1 (Nat.le_refl _)).alloc (.cells #[.int .i64 B, .int .i64 E, .int .i64 (h - 1), .int .i64 t] 24)
          have B3 := grownB BB.out B1 (.cells #[.int .i64 B, .int .i64 E, .int .i64 (h - 1), .int .i64 t] 24)
          have O3 := (ownN_below hown B1).alloc (.cells #[.int .i64 B, .int .i64 E, .int .i64 (h - 1), .int .i64 t] 24)
          have C3 : C ≤ (w3.alloc (.cells #[.int .i64 B, .int .i64 E, .int .i64 (h - 1), .int .i64 t] 24)).heap.size := by have := B1.size; have := HC.out; simp; omega
          clear B1 c0 c1 c2 c3 J1 hown
          obtain ⟨c0, c1, c2, c3⟩ := V3.at
          obtain ⟨f0, f1, f2, f3⟩ := V3.frees
          have V4 := V3.put B E (h - 1) t
          have B4 := put_below B3 hA B E (h - 1) t
          have O4 : (put (w3.alloc (.cells #[.int .i64 B, .int .i64 E, .int .i64 (h - 1), .int .i64 t] 24)) A B E (h - 1) t).ownsRow C 3 1 v ts.length (nCells ts) := ownsRow_setCell_below (ownsRow_setCell_below (ownsRow_setCell_below (ownsRow_setCell_below O3 (a := ⟨A, 0, none⟩) hAC _) (a := ⟨A, 1, none⟩) hAC _) (a := ⟨A, 2, none⟩) hAC _) (a := ⟨A, 3, none⟩) hAC _
          have C4 : C ≤ (put (w3.alloc (.cells #[.int .i64 B, .int .i64 E, .int .i64 (h - 1), .int .i64 t] 24)) A B E (h - 1) t).heap.size := by show C ≤ _; have := (put_below (Below.refl 0 (w3.alloc (.cells #[.int .i64 B, .int .i64 E, .int .i64 (h - 1), .int .i64 t] 24))) (Nat.zero_le A) B E (h - 1) t).size; omega
          have hf := W1.out.few
          rw [List.length_append, List.length_singleton] at hf
          have HF := Lib.hid hf
          clear hf O3
          go_upto_region 15 with fail
          change Code.wp Try.prog _ _ _ (put (w3.alloc (.cells #[.int .i64 B, .int .i64 E, .int .i64 (h - 1), .int .i64 t] 24)) A B E (h - 1) t)
          generalize put (w3.alloc (.cells #[.int .i64 B, .int .i64 E, .int .i64 (h - 1), .int .i64 t] 24)) A B E (h - 1) t = wP at *
          clear V3 B3 C3 c0 c1 c2 c3 f0 f1 f2 f3
          go_wp2_with (at_builtin; refine wpList_append_own _ rfl _ _ 22 rfl C 3 i0 (.int .i64 0) 1 8 Try.underlying22 hi hz0 hz1 hz2 rfl (by decide) _ _ _ rfl (O4.alloc _) ⟨wP.heap.size, 0, none⟩ 1 1 [.int .i64 (T + D)] rfl rfl (oneN_new _ _ _) (oneN_cell _) (by have := HF.out; unfold maxLen; omega) (by have := HF.out; omega) (by have := C4; simp only [World.size_alloc]; omega) ?_; intro v' w5 hown' hgrow _)
          have V5 := Vals.growN V4 O4 hAC hgrow
          have R5 := growN O4 B4 (by omega) C4 hgrow
          rw [← nCells_snoc] at hown'
          have HO : Hid (w5.ownsRow C 3 1 v' (ts ++ [T + D]).length (nCells (ts ++ [T + D]))) := by
            show World.ownsRow _ _ _ _ _ _ _
            rw [List.length_append, List.length_singleton]
            exact hown'
          clear hown' hgrow O4 V4 B4 C4
          go_wp2_with fail
          go_roundw
          case rel => exact ⟨k + 1, T + D, h - 1, t, ts ++ [T + D], _, rfl, by omega, by go_num, rfl, W1, HO.out, V5, R5.1, R5.2, by omega, by have := W1.out.t1; omega⟩
          case measure => simp [intOf]; omega
        · have W2 := Lib.hid (U2 hp)
          have J2 := K2 hp
          clear U1 U2 K1 K2
          go_wp2_with fail
          with_reducible refine (J2 _).mono ?_
          rintro r w3 ⟨rfl, B1⟩
          have V3 := (V.out.keep B1 (Nat.le_refl _)).alloc (.cells #[.int .i64 B, .int .i64 E, .int .i64 0, .int .i64 t] 24)
          have B3 := grownB BB.out B1 (.cells #[.int .i64 B, .int .i64 E, .int .i64 0, .int .i64 t] 24)
          have O3 := (ownN_below hown B1).alloc (.cells #[.int .i64 B, .int .i64 E, .int .i64 0, .int .i64 t] 24)
          have C3 : C ≤ (w3.alloc (.cells #[.int .i64 B, .int .i64 E, .int .i64 0, .int .i64 t] 24)).heap.size := by have := B1.size; have := HC.out; simp; omega
          clear B1 c0 c1 c2 c3 J2 hown
          obtain ⟨c0, c1, c2, c3⟩ := V3.at
          obtain ⟨f0, f1, f2, f3⟩ := V3.frees
          have V4 := V3.put B E 0 t
          have B4 := put_below B3 hA B E 0 t
          have O4 : (put (w3.alloc (.cells #[.int .i64 B, .int .i64 E, .int .i64 0, .int .i64 t] 24)) A B E 0 t).ownsRow C 3 1 v ts.length (nCells ts) := ownsRow_setCell_below (ownsRow_setCell_below (ownsRow_setCell_below (ownsRow_setCell_below O3 (a := ⟨A, 0, none⟩) hAC _) (a := ⟨A, 1, none⟩) hAC _) (a := ⟨A, 2, none⟩) hAC _) (a := ⟨A, 3, none⟩) hAC _
          have C4 : C ≤ (put (w3.alloc (.cells #[.int .i64 B, .int .i64 E, .int .i64 0, .int .i64 t] 24)) A B E 0 t).heap.size := by show C ≤ _; have := (put_below (Below.refl 0 (w3.alloc (.cells #[.int .i64 B, .int .i64 E, .int .i64 0, .int .i64 t] 24))) (Nat.zero_le A) B E 0 t).size; omega
          have HO := Lib.hid O4
          clear O3 O4
          go_wp2_with fail
          go_roundw
          case rel => exact ⟨k + 1, T + D, 0, t, ts, _, rfl, by omega, by go_num, rfl, W2, HO.out, V4, B4, C4, by omega, by have := W2.out.t1; omega⟩
          case measure => simp [intOf]; omega
      · obtain ⟨ob, cb, rfl, NT⟩ := Ns.of_own rfl hown
        have GL := Lib.hid (fun (i k : Nat) (hi : i ≤ k) (hk : k < ts.length) => good_law S.out.good e1 hi hk)
        have GB := Lib.hid S.out.good
        have NT := Lib.hid NT
        have hL : ts.length ≤ 200 := by have := S.out.few; omega
        have V' := V
        clear S hown HN HC
        generalize hgl : ts.length = L at *
        clear hgl
        go_wp2_with fail
        go_loopw [68] (fun s wq => ∃ i : Nat, i ≤ L ∧ s = .int .i64 i ∧ Hid (Var wq A B E H Tb) ∧ Hid (Ns wq ob L cb ts) ∧ Hid (Below w.heap.size w wq)) (fun s _ => L - (intOf s).toNat)
        case atStart => exact ⟨0, Nat.zero_le _, rfl, V, NT, BB⟩
        case round =>
          clear V V' NT BB
          obtain ⟨i, hi, rfl, V, NT, BB⟩ := hrel
          by_cases hlt : i < L
          · obtain ⟨g, o, rfl, hc⟩ := NT.out.cell i hlt
            have X : Hid (∃ z, z = ts.getD i 0) := ⟨_, rfl⟩
            obtain ⟨z, hz⟩ := X.out
            rw [← hz] at hc
            have HZ := Lib.hid hz
            clear X hz
            go_wp2_with fail
            clear hc
            go_loopw [20] (fun s wq => ∃ j : Nat, i ≤ j ∧ j ≤ L ∧ s = .int .i64 j ∧ Hid (Var wq A B E H Tb) ∧ Hid (Ns wq (some ⟨g, o, none⟩) L cb ts) ∧ Hid (Below w.heap.size w wq)) (fun s _ => L - (intOf s).toNat)
            case atStart => exact ⟨i, Nat.le_refl _, by omega, rfl, V, NT, BB⟩
            case round =>
              clear V NT BB
              obtain ⟨j, hij, hjl, rfl, V, NT, BB⟩ := hrel
              by_cases hj : j < L
              · obtain ⟨g', o', he, hc⟩ := NT.out.cell j hj
                obtain ⟨rfl, rfl⟩ : g' = g ∧ o' = o := by simpa using he.symm
                have hl := GL.out i j hij hj
                have hg := GB.out i j hij (by have := NT.out.len; omega)
                rw [← HZ.out] at hl hg
                generalize ts.getD j 0 = y at *
                obtain ⟨hg1, hg2, hg3, hg4⟩ := hg
                obtain ⟨Q, hQ⟩ : ∃ Q, (y - z).tdiv E = Q := ⟨_, rfl⟩
                have hQ' : (y - z) / E = Q := by rw [← hQ]; exact (Int.tdiv_eq_ediv_of_nonneg (by omega)).symm
                rw [hQ'] at hl
                have q0 : 0 ≤ Q := by rw [← hQ']; exact div_nn (by omega) e1
                have q1 : Q ≤ y - z := by rw [← hQ']; exact div_le (by omega) e1
                have hE : (E == 0) = false := by simp; omega
                have hE' : ¬ E = 0 := by omega
                have hj2 : (j : Int) < (L : Int) := by omega
                have hlaw : ¬ (B + Q < (j : Int) - (i : Int) + 1) := by omega
                obtain ⟨c0, c1, c2, c3⟩ := V.out.at
                clear hg4 he hQ'
                go_upto_region 23 with fail
                go_quiet (fail)
                go_wp2_with fail
                go_roundw
                case rel => exact ⟨j + 1, by omega, by omega, by go_num, V, ns_drewN NT.out nq, below_drewN8 BB.out nq⟩
                case measure => simp [intOf]; omega
              · obtain rfl : j = L := by omega
                go_wp2_with fail
                go_roundw
                case rel => exact ⟨i + 1, by omega, by go_num, V, NT, BB⟩
                case measure => simp [intOf]; omega
          · obtain rfl : i = L := by omega
            go_wp2_with fail
            go_ret
            exact ⟨rfl, BB.out⟩
end Bkt
end Go.Proofs.Ytmnnohogbgjkcaa
