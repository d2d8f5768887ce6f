/-
  RouteTells' walk.
-/
import Derived.Test.YtplfmphhmlkejaaRotH
import Derived.Test.YtplfmphhmlkejaaRotC
import Derived.Test.YtplfmphhmlkejaaRotF
import Derived.IntWalk
namespace Go.Proofs.Ytplfmphhmlkejaa
open Go.RowKit Go.Shelf
set_option linter.unusedVariables false

theorem boxC {W : World} {A : Nat} {a b : Value} {q t : Int} (V : Vals W A 25 (cfgV a b q t)) : W.cell? ⟨A, 0, none⟩ = some a ∧ W.cell? ⟨A, 1, none⟩ = some b ∧ W.cell? ⟨A, 2, none⟩ = some (.int .i64 q) ∧ W.cell? ⟨A, 3, none⟩ = some (.int .i64 t) := ⟨V.cell 0, V.cell 1, V.cell 2, V.cell 3⟩
theorem tells_arg {C : CfgL} {L : List L2} {i p : Int} (h : cfgR C = false) : chooseF C L = (0, 1) ∧ rcvF C i p = (0, 1) ∧ nextF C i p = (0, 1) := by
  refine ⟨chooseF_no (by rw [h]; rfl), ?_, ?_⟩
  · unfold rcvF; rw [whyP_arg h]; rfl
  · unfold nextF; rw [whyP_arg h]; rfl
theorem tells_not {C : CfgL} {i p : Int} (h : cfgR C = true) (h2 : hasP C i p = false) : rcvF C i p = (0, 3) ∧ nextF C i p = (0, 3) := by
  refine ⟨?_, ?_⟩
  · unfold rcvF; rw [whyP_range h h2]; rfl
  · unfold nextF; rw [whyP_range h h2]; rfl
theorem tells_yes {C : CfgL} {i p : Int} (h : cfgR C = true) (h2 : hasP C i p = true) : rcvF C i p = (atP C i p, 0) ∧ nextF C i p = (nextP C i p, 0) := by
  refine ⟨?_, ?_⟩
  · unfold rcvF; rw [whyP_ok h h2]; rfl
  · unfold nextF; rw [whyP_ok h h2]; rfl
set_option maxRecDepth 100000 in
set_option maxHeartbeats 12800000 in
theorem tells_walk (o1 : Option Addr) (n1 c1 : Nat) (o2 : Option Addr) (n2 c2 : Nat) (c : CfgL) (oa : Option Addr) (n cap : Nat) (l : List L2) (i p : Int) (w : World) (h : CfgAt w o1 n1 c1 o2 n2 c2 c) (hl : Ls w oa n cap l) (hcap : cap ≤ maxLen) (hS : ShortL l) :
    Calls Try.prog 3 #[aggC o1 n1 c1 o2 n2 c2 c, .slice oa n cap, .int .i64 i, .int .i64 p] w fun e w' => e = .returned (.bool true) ∧ Below w.heap.size w w' := by
  have hr1 := h.rs.room
  have hr2 := h.qs.room
  have HFew := fun w => few_any o1 n1 c1 o2 n2 c2 c w hr1 hr2
  have HSome := fun w1 (B : Below w.heap.size w w1) => some_any oa n cap l w1 (hl.below B (Nat.le_refl _))
  have hC := h.few
  have hL := hl.some
  have hSL := hS.take 5
  have hn5 : min n 5 ≤ 4611686018427387904 := by omega
  have VB := Vals.new w 25 (cfgV (.slice o1 n1 c1) (.slice o2 n2 c2) c.2.2.1 c.2.2.2)
  have B1 := below_alloc w (.cells (cfgV (.slice o1 n1 c1) (.slice o2 n2 c2) c.2.2.1 c.2.2.2) 25)
  generalize l.take 5 = L at *
  generalize min n 5 = u at *
  generalize fewC c = C at *
  generalize min n1 6 = m1 at *
  generalize min n2 6 = m2 at *
  dsimp only [aggC] at *
  clear h hl hS hr1 hr2 hcap
  have HCh := fun W (B : Below w.heap.size w W) => choose_any o1 m1 c1 o2 m2 c2 C oa u cap L W (hC.below B (Nat.le_refl _)) (hL.below B (Nat.le_refl _)) hn5
  have HRc := fun W (B : Below w.heap.size w W) => receiver_any o1 m1 c1 o2 m2 c2 C i p W (hC.below B (Nat.le_refl _))
  have HNx := fun W (B : Below w.heap.size w W) => after_any o1 m1 c1 o2 m2 c2 C i p W (hC.below B (Nat.le_refl _))
  have HAl := fun W => alive_any W
  have HRR := fun W (B : Below w.heap.size w W) => (hC.below B (Nat.le_refl _)).refRight
  have HLR := fun W (B : Below w.heap.size w W) => refRight_any oa u cap L W (hL.below B (Nat.le_refl _)) hn5 hSL
  have HRC := fun (a : cfgR C = true) (b : rightB L = true) W (B : Below w.heap.size w W) => refChoose_any o1 m1 c1 o2 m2 c2 C oa u cap L W (hC.below B (Nat.le_refl _)) (hL.below B (Nat.le_refl _)) hn5 a b
  have HHas := fun W (B : Below w.heap.size w W) => refHas_any o1 m1 c1 o2 m2 c2 C W i p (hC.below B (Nat.le_refl _))
  have HAf := fun (a : hasP C i p = true) W (B : Below w.heap.size w W) => refAfter_any o1 m1 c1 o2 m2 c2 C W i p (hC.below B (Nat.le_refl _)) a
  unfold ChooseOut at HCh
  unfold PlaceOut at HRc HNx
  obtain ⟨x, y, hxy⟩ : ∃ x y, chooseF C L = (x, y) := ⟨_, _, rfl⟩
  obtain ⟨a1, f1, haf⟩ : ∃ x y, rcvF C i p = (x, y) := ⟨_, _, rfl⟩
  obtain ⟨b1, g1, hbg⟩ : ∃ x y, nextF C i p = (x, y) := ⟨_, _, rfl⟩
  have HArg : Hid (cfgR C = false → x = 0 ∧ y = 1 ∧ a1 = 0 ∧ f1 = 1 ∧ b1 = 0 ∧ g1 = 1) := fun h => by
    obtain ⟨q1, q2, q3⟩ := tells_arg (C := C) (L := L) (i := i) (p := p) h
    rw [hxy, Prod.mk.injEq] at q1
    rw [haf, Prod.mk.injEq] at q2
    rw [hbg, Prod.mk.injEq] at q3
    exact ⟨q1.1, q1.2, q2.1, q2.2, q3.1, q3.2⟩
  have HNot : Hid (cfgR C = true → hasP C i p = false → a1 = 0 ∧ f1 = 3 ∧ b1 = 0 ∧ g1 = 3) := fun h h2 => by
    obtain ⟨q2, q3⟩ := tells_not h h2
    rw [haf, Prod.mk.injEq] at q2
    rw [hbg, Prod.mk.injEq] at q3
    exact ⟨q2.1, q2.2, q3.1, q3.2⟩
  have HYes : Hid (cfgR C = true → hasP C i p = true → a1 = atP C i p ∧ f1 = 0 ∧ b1 = nextP C i p ∧ g1 = 0) := fun h h2 => by
    obtain ⟨q2, q3⟩ := tells_yes h h2
    rw [haf, Prod.mk.injEq] at q2
    rw [hbg, Prod.mk.injEq] at q3
    exact ⟨q2.1, q2.2, q3.1, q3.2⟩
  have HCn : Hid (rightB L = false → x = 0 ∧ y = 1) := fun h => by
    have := chooseF_no (c := C) (l := L) (by rw [h]; simp)
    rw [hxy, Prod.mk.injEq] at this
    exact this
  have HCy : Hid (cfgR C = true → rightB L = true → (rotF C L < 0 ∧ x = 0 ∧ y = 4) ∨ (¬ rotF C L < 0 ∧ x = rotF C L ∧ y = 0)) := fun h h2 => by
    have := chooseF_is (c := C) (l := L) h h2
    rw [hxy] at this
    by_cases h3 : rotF C L < 0
    · rw [if_pos h3, Prod.mk.injEq] at this
      exact .inl ⟨h3, this⟩
    · rw [if_neg h3, Prod.mk.injEq] at this
      exact .inr ⟨h3, this⟩
  rw [hxy] at HCh
  rw [haf] at HRc
  rw [hbg] at HNx
  clear hxy haf hbg hL hSL
  go_enter Try.func3, Try.ntmps3
  go_upto_region 1 with fail
  generalize w.alloc (.cells (cfgV (.slice o1 n1 c1) (.slice o2 n2 c2) c.2.2.1 c.2.2.2) 25) = w1 at *
  obtain ⟨x0, x1, x2, x3⟩ := boxC VB
  go_wp2_with fail
  refine (HFew _).mono ?_
  rintro e w2 ⟨rfl, B'⟩
  have B2 := B1.trans (B'.mono B1.size)
  have V2 := VB.keep B' (Nat.le_refl _)
  clear B1 VB x0 x1 x2 x3 B'
  have B1 := B2
  have VB := V2
  clear B2 V2
  obtain ⟨x0, x1, x2, x3⟩ := boxC VB
  go_wp2_with fail
  refine (HSome _ B1).mono ?_
  rintro e w3 ⟨rfl, rfl⟩
  have g0 := VB.free 0
  have g1' := VB.free 1
  have g2 := VB.free 2
  have g3 := VB.free 3
  clear HFew HSome
  go_upto_region 2 with fail
  have V2 : Vals ((((w2.setCell ⟨w.heap.size, 0, none⟩ (.slice o1 m1 c1)).setCell ⟨w.heap.size, 1, none⟩ (.slice o2 m2 c2)).setCell ⟨w.heap.size, 2, none⟩ (.int .i64 C.2.2.1)).setCell ⟨w.heap.size, 3, none⟩ (.int .i64 C.2.2.2)) w.heap.size 25 (cfgV (.slice o1 m1 c1) (.slice o2 m2 c2) C.2.2.1 C.2.2.2) := VB.four _ _ _ _
  have B2 := below_four B1 (Nat.le_refl w.heap.size) (.slice o1 m1 c1) (.slice o2 m2 c2) (.int .i64 C.2.2.1) (.int .i64 C.2.2.2)
  clear B1 VB x0 x1 x2 x3 g0 g1' g2 g3
  generalize (((w2.setCell ⟨w.heap.size, 0, none⟩ (.slice o1 m1 c1)).setCell ⟨w.heap.size, 1, none⟩ (.slice o2 m2 c2)).setCell ⟨w.heap.size, 2, none⟩ (.int .i64 C.2.2.1)).setCell ⟨w.heap.size, 3, none⟩ (.int .i64 C.2.2.2) = w3 at *
  have B1 := B2
  have VB := V2
  clear B2 V2
  obtain ⟨x0, x1, x2, x3⟩ := boxC VB
  go_wp2_with fail
  refine (HCh _ B1).mono ?_
  rintro e w4 ⟨rfl, B'⟩
  have B2 := B1.trans (B'.mono B1.size)
  have V2 := VB.keep B' (Nat.le_refl _)
  clear B1 VB x0 x1 x2 x3 B'
  have B1 := B2
  have VB := V2
  clear B2 V2
  obtain ⟨x0, x1, x2, x3⟩ := boxC VB
  clear HCh
  go_wp2_with fail
  refine (HRc _ B1).mono ?_
  rintro e w5 ⟨rfl, B'⟩
  have B2 := B1.trans (B'.mono B1.size)
  have V2 := VB.keep B' (Nat.le_refl _)
  clear B1 VB x0 x1 x2 x3 B'
  have B1 := B2
  have VB := V2
  clear B2 V2
  obtain ⟨x0, x1, x2, x3⟩ := boxC VB
  clear HRc
  go_wp2_with fail
  refine (HNx _ B1).mono ?_
  rintro e w6 ⟨rfl, B'⟩
  have B2 := B1.trans (B'.mono B1.size)
  have V2 := VB.keep B' (Nat.le_refl _)
  clear B1 VB x0 x1 x2 x3 B'
  have B1 := B2
  have VB := V2
  clear B2 V2
  obtain ⟨x0, x1, x2, x3⟩ := boxC VB
  clear HNx
  go_wp2_with fail
  refine (HAl _).mono ?_
  rintro e w7 ⟨rfl, B'⟩
  have B2 := B1.trans (B'.mono B1.size)
  have V2 := VB.keep B' (Nat.le_refl _)
  clear B1 VB x0 x1 x2 x3 B'
  have B1 := B2
  have VB := V2
  clear B2 V2
  obtain ⟨x0, x1, x2, x3⟩ := boxC VB
  clear HAl
  go_wp2_with fail
  refine (HRR _ B1).mono ?_
  rintro e w8 ⟨rfl, B'⟩
  have B2 := B1.trans (B'.mono B1.size)
  have V2 := VB.keep B' (Nat.le_refl _)
  clear B1 VB x0 x1 x2 x3 B'
  have B1 := B2
  have VB := V2
  clear B2 V2
  obtain ⟨x0, x1, x2, x3⟩ := boxC VB
  clear HRR
  cases hr : cfgR C with
  | false =>
    obtain ⟨rfl, rfl, rfl, rfl, rfl, rfl⟩ := HArg.out hr
    clear HArg HNot HYes HCn HCy HLR HRC HHas HAf hC hr
    go_wp2_with fail
    go_ret
    exact ⟨by simp, B1⟩
  | true =>
    clear HArg
    have HRC2 := HRC hr
    clear HRC
    go_wp2_with fail
    refine (HLR _ B1).mono ?_
    rintro e w9 ⟨rfl, B'⟩
    have B2 := B1.trans (B'.mono B1.size)
    have V2 := VB.keep B' (Nat.le_refl _)
    clear B1 VB x0 x1 x2 x3 B'
    have B1 := B2
    have VB := V2
    clear B2 V2
    obtain ⟨x0, x1, x2, x3⟩ := boxC VB
    clear HLR
    cases hb : rightB L with
    | false =>
      obtain ⟨rfl, rfl⟩ := HCn.out hb
      clear HCn HCy HRC2 hb
      go_wp2_with fail
      refine (HHas _ B1).mono ?_
      rintro e w10 ⟨rfl, B'⟩
      have B2 := B1.trans (B'.mono B1.size)
      have V2 := VB.keep B' (Nat.le_refl _)
      clear B1 VB x0 x1 x2 x3 B'
      have B1 := B2
      have VB := V2
      clear B2 V2
      obtain ⟨x0, x1, x2, x3⟩ := boxC VB
      cases hh : hasP C i p with
      | false =>
        obtain ⟨rfl, rfl, rfl, rfl⟩ := HNot.out hr hh
        clear HHas HNot HYes HAf hC hr hh
        go_wp2_with fail
        go_ret
        exact ⟨by simp, B1⟩
      | true =>
        obtain ⟨rfl, rfl, rfl, rfl⟩ := HYes.out hr hh
        obtain ⟨k, j, rfl, rfl, hk, hj⟩ := hasP_parts hh
        have HAf2 := HAf hh
        have HQ := (hC.below B1 (Nat.le_refl _)).qs
        obtain ⟨g, o, pa, s1, k1, pb, s2, k2, rfl, e0, e1, hCh, hM⟩ := HQ.cell k (by rw [← HQ.len]; exact hk)
        have hlc := hCh.len
        obtain ⟨g', o', rfl, f0⟩ := hCh.cell j (by rw [← hlc]; exact hj)
        have hk2 : k < m2 := by rw [← HQ.len]; exact hk
        have hj2 : j < s1 := by rw [← hlc]; exact hj
        have HAt : Hid (atP C (k : Int) (j : Int) = (C.2.1.getD k zT).1.getD j 0) := rfl
        simp only [HAt.out]
        generalize (C.2.1.getD k zT).1.getD j 0 = v at *
        clear HHas HNot HYes HAf hC hr hh HQ hCh hM hlc hk hj e1 HAt
        go_wp2_with fail
        refine (HAf2 _ B1).mono ?_
        rintro e w20 ⟨rfl, B'⟩
        have B2 := B1.trans (B'.mono B1.size)
        have V2 := VB.keep B' (Nat.le_refl _)
        clear B1 VB x0 x1 x2 x3 B'
        have B1 := B2
        have VB := V2
        clear B2 V2
        obtain ⟨x0, x1, x2, x3⟩ := boxC VB
        go_wp2_with fail
        go_ret
        exact ⟨by simp, B1⟩
    | true =>
      have HRC3 := HRC2 hb
      have HCy2 := HCy.out hr hb
      clear HCn HCy HRC2 hb
      generalize rotF C L = R at *
      rcases HCy2 with ⟨hneg, rfl, rfl⟩ | ⟨hneg, rfl, rfl⟩
      · go_wp2_with fail
        refine (HRC3 _ B1).mono ?_
        rintro e w10 ⟨rfl, B'⟩
        have B2 := B1.trans (B'.mono B1.size)
        have V2 := VB.keep B' (Nat.le_refl _)
        clear B1 VB x0 x1 x2 x3 B'
        have B1 := B2
        have VB := V2
        clear B2 V2
        obtain ⟨x0, x1, x2, x3⟩ := boxC VB
        clear HRC3
        go_wp2_with fail
        refine (HHas _ B1).mono ?_
        rintro e w11 ⟨rfl, B'⟩
        have B2 := B1.trans (B'.mono B1.size)
        have V2 := VB.keep B' (Nat.le_refl _)
        clear B1 VB x0 x1 x2 x3 B'
        have B1 := B2
        have VB := V2
        clear B2 V2
        obtain ⟨x0, x1, x2, x3⟩ := boxC VB
        cases hh : hasP C i p with
        | false =>
          obtain ⟨rfl, rfl, rfl, rfl⟩ := HNot.out hr hh
          clear HHas HNot HYes HAf hC hr hh
          go_wp2_with fail
          go_ret
          exact ⟨by simp, B1⟩
        | true =>
          obtain ⟨rfl, rfl, rfl, rfl⟩ := HYes.out hr hh
          obtain ⟨k, j, rfl, rfl, hk, hj⟩ := hasP_parts hh
          have HAf2 := HAf hh
          have HQ := (hC.below B1 (Nat.le_refl _)).qs
          obtain ⟨g, o, pa, s1, k1, pb, s2, k2, rfl, e0, e1, hCh, hM⟩ := HQ.cell k (by rw [← HQ.len]; exact hk)
          have hlc := hCh.len
          obtain ⟨g', o', rfl, f0⟩ := hCh.cell j (by rw [← hlc]; exact hj)
          have hk2 : k < m2 := by rw [← HQ.len]; exact hk
          have hj2 : j < s1 := by rw [← hlc]; exact hj
          have HAt : Hid (atP C (k : Int) (j : Int) = (C.2.1.getD k zT).1.getD j 0) := rfl
          simp only [HAt.out]
          generalize (C.2.1.getD k zT).1.getD j 0 = v at *
          clear HHas HNot HYes HAf hC hr hh HQ hCh hM hlc hk hj e1 HAt
          go_wp2_with fail
          refine (HAf2 _ B1).mono ?_
          rintro e w20 ⟨rfl, B'⟩
          have B2 := B1.trans (B'.mono B1.size)
          have V2 := VB.keep B' (Nat.le_refl _)
          clear B1 VB x0 x1 x2 x3 B'
          have B1 := B2
          have VB := V2
          clear B2 V2
          obtain ⟨x0, x1, x2, x3⟩ := boxC VB
          go_wp2_with fail
          go_ret
          exact ⟨by simp, B1⟩
      · go_wp2_with fail
        refine (HRC3 _ B1).mono ?_
        rintro e w10 ⟨rfl, B'⟩
        have B2 := B1.trans (B'.mono B1.size)
        have V2 := VB.keep B' (Nat.le_refl _)
        clear B1 VB x0 x1 x2 x3 B'
        have B1 := B2
        have VB := V2
        clear B2 V2
        obtain ⟨x0, x1, x2, x3⟩ := boxC VB
        go_wp2_with fail
        refine (HRC3 _ B1).mono ?_
        rintro e w11 ⟨rfl, B'⟩
        have B2 := B1.trans (B'.mono B1.size)
        have V2 := VB.keep B' (Nat.le_refl _)
        clear B1 VB x0 x1 x2 x3 B'
        have B1 := B2
        have VB := V2
        clear B2 V2
        obtain ⟨x0, x1, x2, x3⟩ := boxC VB
        clear HRC3
        go_wp2_with fail
        refine (HHas _ B1).mono ?_
        rintro e w12 ⟨rfl, B'⟩
        have B2 := B1.trans (B'.mono B1.size)
        have V2 := VB.keep B' (Nat.le_refl _)
        clear B1 VB x0 x1 x2 x3 B'
        have B1 := B2
        have VB := V2
        clear B2 V2
        obtain ⟨x0, x1, x2, x3⟩ := boxC VB
        cases hh : hasP C i p with
        | false =>
          obtain ⟨rfl, rfl, rfl, rfl⟩ := HNot.out hr hh
          clear HHas HNot HYes HAf hC hr hh
          go_wp2_with fail
          go_ret
          exact ⟨by simp, B1⟩
        | true =>
          obtain ⟨rfl, rfl, rfl, rfl⟩ := HYes.out hr hh
          obtain ⟨k, j, rfl, rfl, hk, hj⟩ := hasP_parts hh
          have HAf2 := HAf hh
          have HQ := (hC.below B1 (Nat.le_refl _)).qs
          obtain ⟨g, o, pa, s1, k1, pb, s2, k2, rfl, e0, e1, hCh, hM⟩ := HQ.cell k (by rw [← HQ.len]; exact hk)
          have hlc := hCh.len
          obtain ⟨g', o', rfl, f0⟩ := hCh.cell j (by rw [← hlc]; exact hj)
          have hk2 : k < m2 := by rw [← HQ.len]; exact hk
          have hj2 : j < s1 := by rw [← hlc]; exact hj
          have HAt : Hid (atP C (k : Int) (j : Int) = (C.2.1.getD k zT).1.getD j 0) := rfl
          simp only [HAt.out]
          generalize (C.2.1.getD k zT).1.getD j 0 = v at *
          clear HHas HNot HYes HAf hC hr hh HQ hCh hM hlc hk hj e1 HAt
          go_wp2_with fail
          refine (HAf2 _ B1).mono ?_
          rintro e w20 ⟨rfl, B'⟩
          have B2 := B1.trans (B'.mono B1.size)
          have V2 := VB.keep B' (Nat.le_refl _)
          clear B1 VB x0 x1 x2 x3 B'
          have B1 := B2
          have VB := V2
          clear B2 V2
          obtain ⟨x0, x1, x2, x3⟩ := boxC VB
          go_wp2_with fail
          go_ret
          exact ⟨by simp, B1⟩
end Go.Proofs.Ytplfmphhmlkejaa
