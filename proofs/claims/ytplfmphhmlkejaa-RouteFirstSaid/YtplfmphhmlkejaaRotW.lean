/-
  RouteFirst's walk.
-/
import Derived.Test.YtplfmphhmlkejaaRotI
namespace Go.Proofs.Ytplfmphhmlkejaa
open Go.RowKit Go.Shelf
set_option linter.unusedVariables false

theorem Vals.grewF {w w1 : World} {A : Nat} {T : TypeId} {xs : Array Value} {row : Option Nat} (h : Vals w A T xs) (hg : w.grownBy w1 row) (hne : some A ≠ row) : Vals w1 A T xs := (hg.block A h.lt hne).trans h
theorem slice_of {w : World} {base : Nat} {e : TypeId} {s : Nat} {v : Value} {n : Nat} {xs : List Value} (h : w.ownsRow base e s v n xs) : ∃ oa cap, v = .slice oa n cap := by
  rcases h.2 with ⟨rfl, rfl⟩ | ⟨g, cap, cur, rfl, _⟩
  · exact ⟨none, 0, rfl⟩
  · exact ⟨_, cap, rfl⟩
theorem front_at {w w' : World} {A R : Nat} {o1 : Option Addr} {n1 c1 : Nat} {o2 : Option Addr} {n2 c2 : Nat} {C : CfgL} {v : Nat} {oz : Option Addr} {cz : Nat} {qs : List (Value × Value)} (h : CfgAt w o1 n1 c1 o2 n2 c2 C)
    (hraw : ∀ i, i < n2 → ∃ (g o : Nat) (pa : Option Addr) (m1 k1 : Nat) (pb : Option Addr) (m2 k2 : Nat), o2 = some ⟨g, o, none⟩ ∧ qs.getD i zQ = (.slice pa m1 k1, .slice pb m2 k2) ∧ w.cell? ⟨g, o + i * 2, none⟩ = some (qs.getD i zQ).1 ∧ w.cell? ⟨g, o + i * 2 + 1, none⟩ = some (qs.getD i zQ).2 ∧ Ns w pa m1 k1 (C.2.1.getD i zT).1 ∧ Ms w pb m2 k2 (C.2.1.getD i zT).2)
    (hq : qs.length = n2) (hv : min n2 3 = v) (own : w'.ownsRow A 41 2 (.slice oz (1 + v) cz) (1 + v) ([.slice (some ⟨R, 0, none⟩) 1 1, .slice none 0 0] ++ cellsQ (qs.take v))) (U : Vals w' R 3 #[.int .i64 0]) (B : Below w.heap.size w w') :
    CfgAt w' o1 n1 c1 oz (1 + v) cz (front C) := by
  have hl := h.qs.len
  have e3 : C.2.1.take 3 = C.2.1.take v := by rw [← hv, ← hl, Nat.min_comm]; simp
  have ow2 : w'.ownsRow A 41 2 (.slice oz (1 + v) cz) (1 + v) (cellsQ ((.slice (some ⟨R, 0, none⟩) 1 1, .slice none 0 0) :: qs.take v)) := own
  have part : ∀ i, i < 1 + v → ∃ (pa : Option Addr) (n1 c1 : Nat) (pb : Option Addr) (n2 c2 : Nat), (((.slice (some ⟨R, 0, none⟩) 1 1, .slice none 0 0) :: qs.take v : List (Value × Value))).getD i zQ = (.slice pa n1 c1, .slice pb n2 c2) ∧ Ns w' pa n1 c1 ((([0], []) :: C.2.1.take v : List T2).getD i zT).1 ∧ Ms w' pb n2 c2 ((([0], []) :: C.2.1.take v : List T2).getD i zT).2 := by
    intro i hi
    cases i with
    | zero =>
      refine ⟨_, 1, 1, _, 0, 0, rfl, ⟨rfl, Nat.le_refl _, fun k hk => ⟨R, 0, rfl, ?_⟩⟩, ⟨rfl, Nat.le_refl _, fun k hk => absurd hk (by omega)⟩⟩
      obtain rfl : k = 0 := by omega
      exact U.cell 0
    | succ i =>
      obtain ⟨g', o', pa, a1, a2, pb, a3, a4, _, e2, _, _, q3, q4⟩ := hraw i (by omega)
      refine ⟨pa, a1, a2, pb, a3, a4, ?_, ?_, ?_⟩
      · show (qs.take v).getD i zQ = _
        rw [getD_take zQ qs (by omega)]
        exact e2
      · show Ns w' pa a1 a2 ((C.2.1.take v).getD i zT).1
        rw [getD_take zT C.2.1 (by omega)]
        exact q3.below B (Nat.le_refl _)
      · show Ms w' pb a3 a4 ((C.2.1.take v).getD i zT).2
        rw [getD_take zT C.2.1 (by omega)]
        exact q4.below B (Nat.le_refl _)
  obtain ⟨oa, cap, e, hQ, hc⟩ := Qs.of_raw (l := ([0], []) :: C.2.1.take v) ow2 (by simp [hq]; omega) (by simp [hl]; omega) part
  cases e
  refine ⟨h.rs.below B (Nat.le_refl _), ?_, h.b1, hc, h.short, fun i hi => ?_⟩
  · unfold front
    rw [e3]
    exact hQ
  · cases i with
    | zero => exact ⟨show 1 ≤ maxLen by decide, show 0 ≤ maxLen by decide, fun k hk => absurd hk (by simp [front])⟩
    | succ i =>
      have hi2 : i < (C.2.1.take 3).length := by simpa [front] using hi
      rw [List.length_take] at hi2
      have e4 : (front C).2.1.getD (i + 1) zT = C.2.1.getD i zT := by
        show (C.2.1.take 3).getD i zT = _
        rw [getD_take zT C.2.1 (by omega)]
      rw [e4]
      exact h.parts i (by omega)
set_option maxRecDepth 100000 in
set_option maxHeartbeats 25600000 in
theorem first_walk (o1 : Option Addr) (n1 c1 : Nat) (o2 : Option Addr) (n2 c2 : Nat) (c : CfgL) (oa : Option Addr) (n cap : Nat) (l : List L2) (w : World) (h : CfgAt w o1 n1 c1 o2 n2 c2 c) (hl : Ls w oa n cap l) (hcap : cap ≤ maxLen) :
    Calls Try.prog 4 #[aggC o1 n1 c1 o2 n2 c2 c, .slice oa n cap] w fun e w' => e = .returned (.bool true) ∧ Below w.heap.size w w' := by
  have hr1 := h.rs.room
  have hr2 := h.qs.room
  have HFew := fun w => few_any o1 n1 c1 o2 n2 c2 c w hr1 hr2
  have HSome := fun w1 (B : Below w.heap.size w w1) => some_any oa n cap l w1 (hl.below B (Nat.le_refl _))
  have hC := h.few
  have hL := hl.some
  have hn5 : min n 5 ≤ 4611686018427387904 := by omega
  have VB := Vals.new w 25 (cfgV (.slice o1 n1 c1) (.slice o2 n2 c2) c.2.2.1 c.2.2.2)
  have B1 := below_alloc w (.cells (cfgV (.slice o1 n1 c1) (.slice o2 n2 c2) c.2.2.1 c.2.2.2) 25)
  generalize l.take 5 = L at *
  generalize min n 5 = u at *
  generalize fewC c = C at *
  generalize min n1 6 = m1 at *
  generalize min n2 6 = m2 at *
  dsimp only [aggC] at *
  clear h hl hr1 hr2 hcap
  have HCh := fun W (B : Below w.heap.size w W) => choose_any o1 m1 c1 o2 m2 c2 C oa u cap L W (hC.below B (Nat.le_refl _)) (hL.below B (Nat.le_refl _)) hn5
  have HAl := fun W => alive_any W
  unfold ChooseOut at HCh
  obtain ⟨x, y, hxy⟩ : ∃ x y, chooseF C L = (x, y) := ⟨_, _, rfl⟩
  have HArg : Hid ((cfgR C && rightB L) = false → x = 0 ∧ y = 1) := fun h => by
    have := chooseF_no (c := C) (l := L) h
    rw [hxy, Prod.mk.injEq] at this
    exact this
  have HCy : Hid ((cfgR C && rightB L) = true → cfgR C = true ∧ rightB L = true ∧ ((rotF C L < 0 ∧ x = 0 ∧ y = 4) ∨ (¬ rotF C L < 0 ∧ x = rotF C L ∧ y = 0))) := fun h => by
    rw [Bool.and_eq_true] at h
    refine ⟨h.1, h.2, ?_⟩
    have := chooseF_is (c := C) (l := L) h.1 h.2
    rw [hxy] at this
    by_cases h3 : rotF C L < 0
    · rw [if_pos h3, Prod.mk.injEq] at this
      exact .inl ⟨h3, this⟩
    · rw [if_neg h3, Prod.mk.injEq] at this
      exact .inr ⟨h3, this⟩
  rw [hxy] at HCh
  clear hxy
  go_enter Try.func4, Try.ntmps4
  go_upto_region 1 with fail
  generalize w.alloc (.cells (cfgV (.slice o1 n1 c1) (.slice o2 n2 c2) c.2.2.1 c.2.2.2) 25) = w1 at *
  obtain ⟨x0, x1, x2, x3⟩ := boxC VB
  go_wp2_with fail
  refine (HFew _).mono ?_
  rintro e w2 ⟨rfl, B'⟩
  have B2 := B1.trans (B'.mono B1.size)
  have V2 := VB.keep B' (Nat.le_refl _)
  clear B1 VB x0 x1 x2 x3 B'
  have B1 := B2
  have VB := V2
  clear B2 V2
  obtain ⟨x0, x1, x2, x3⟩ := boxC VB
  go_wp2_with fail
  refine (HSome _ B1).mono ?_
  rintro e w3 ⟨rfl, rfl⟩
  have g0 := VB.free 0
  have g1' := VB.free 1
  have g2 := VB.free 2
  have g3 := VB.free 3
  clear HFew HSome
  go_upto_region 2 with fail
  have V2 : Vals ((((w2.setCell ⟨w.heap.size, 0, none⟩ (.slice o1 m1 c1)).setCell ⟨w.heap.size, 1, none⟩ (.slice o2 m2 c2)).setCell ⟨w.heap.size, 2, none⟩ (.int .i64 C.2.2.1)).setCell ⟨w.heap.size, 3, none⟩ (.int .i64 C.2.2.2)) w.heap.size 25 (cfgV (.slice o1 m1 c1) (.slice o2 m2 c2) C.2.2.1 C.2.2.2) := VB.four _ _ _ _
  have B2 := below_four B1 (Nat.le_refl w.heap.size) (.slice o1 m1 c1) (.slice o2 m2 c2) (.int .i64 C.2.2.1) (.int .i64 C.2.2.2)
  clear B1 VB x0 x1 x2 x3 g0 g1' g2 g3
  generalize (((w2.setCell ⟨w.heap.size, 0, none⟩ (.slice o1 m1 c1)).setCell ⟨w.heap.size, 1, none⟩ (.slice o2 m2 c2)).setCell ⟨w.heap.size, 2, none⟩ (.int .i64 C.2.2.1)).setCell ⟨w.heap.size, 3, none⟩ (.int .i64 C.2.2.2) = w3 at *
  have B1 := B2
  have VB := V2
  clear B2 V2
  obtain ⟨x0, x1, x2, x3⟩ := boxC VB
  go_wp2_with fail
  refine (HCh _ B1).mono ?_
  rintro e w4 ⟨rfl, B'⟩
  have B2 := B1.trans (B'.mono B1.size)
  have V2 := VB.keep B' (Nat.le_refl _)
  clear B1 VB x0 x1 x2 x3 B'
  have B1 := B2
  have VB := V2
  clear B2 V2
  obtain ⟨x0, x1, x2, x3⟩ := boxC VB
  clear HCh
  cases hb : cfgR C && rightB L with
  | false =>
    obtain ⟨rfl, rfl⟩ := HArg.out hb
    clear HArg HCy hC hL hb
    go_wp2_with fail
    refine (HAl _).mono ?_
    rintro e w5 ⟨rfl, B'⟩
    have B2 := B1.trans (B'.mono B1.size)
    have V2 := VB.keep B' (Nat.le_refl _)
    clear B1 VB x0 x1 x2 x3 B'
    have B1 := B2
    have VB := V2
    clear B2 V2
    obtain ⟨x0, x1, x2, x3⟩ := boxC VB
    go_wp2_with fail
    go_ret
    exact ⟨by simp, B1⟩
  | true =>
    obtain ⟨hcr, hlr, hxy⟩ := HCy.out hb
    clear HArg HCy hb
    have hy1 : (y == 1) = false := by
      rcases hxy with ⟨_, _, rfl⟩ | ⟨_, _, rfl⟩ <;> rfl
    have HXY := Lib.hid hxy
    have HP := cfgR_parts hcr
    have hml := hC.qs.len
    have hm1 : 1 ≤ m2 := by omega
    have hm4 : m2 ≤ 4 := by omega
    have HHit := Lib.hid (fun k => rotF_hit (c := C) (l := L) k)
    have HNone := Lib.hid (rotF_none (c := C) (l := L))
    have HFr := Lib.hid (front_first (C := C) (L := L) hcr hlr)
    have HEv : Hid (∀ k, k < m2 → allF (C.2.1.getD k zT).2 L = ((C.2.1.getD k zT).2.all (mB L), 0)) := fun k hk => all_is (c := C) hlr (rteR_parts (HP.1 k (by omega))).2.2.2
    have HLn := Lib.hid hml
    clear hxy HP hml hcr hlr
    go_wp2_with fail
    clear x0 x1 x2 x3
    have B0 := B1
    have VB0 := VB
    clear B1 VB
    go_loopw [33] (fun s33 wr => ∃ k : Nat, k ≤ m2 ∧ s33 = .int .i64 k ∧ Vals wr w.heap.size 25 (cfgV (.slice o1 m1 c1) (.slice o2 m2 c2) C.2.2.1 C.2.2.2) ∧ Below w.heap.size w wr ∧ Hid (∀ i, i < k → (C.2.1.getD i zT).2.all (mB L) = false)) (fun s33 _ => m2 - (intOf s33).toNat)
    case atStart => exact ⟨0, Nat.zero_le _, rfl, VB0, B0, fun i hi => absurd hi (by omega)⟩
    case round =>
      obtain ⟨k, hk, rfl, VB, B1, HA⟩ := hrel
      obtain ⟨x0, x1, x2, x3⟩ := boxC VB
      by_cases hlt : k < m2
      · obtain ⟨g, o, pa, s1, k1, pb, s2, k2, rfl, e0, e1, hCh, hM⟩ := (hC.below B1 (Nat.le_refl _)).qs.cell k hlt
        have hkl : k < C.2.1.length := by have := HLn.out; omega
        have h2 := hM.len
        have h3 := (hC.parts k hkl).2.1
        unfold maxLen at h3
        have HE := Lib.hid (HEv.out k hlt)
        have HNo : Hid ((C.2.1.getD k zT).2.all (mB L) = false → ∀ i, i < k + 1 → (C.2.1.getD i zT).2.all (mB L) = false) := fun h1 i hi => by
          by_cases e : i = k
          · subst e; exact h1
          · exact HA.out i (by omega)
        have HYes : Hid ((C.2.1.getD k zT).2.all (mB L) = true → x = (k : Int) ∧ y = 0) := fun h1 => by
          have hq := HHit.out k hkl HA.out h1
          rcases HXY.out with ⟨e, _⟩ | ⟨_, e2, e3⟩
          · rw [hq] at e; omega
          · rw [hq] at e2; exact ⟨e2, e3⟩
        have HLast : Hid ((C.2.1.getD k zT).2.all (mB L) = false → k + 1 = m2 → y = 4) := fun h1 hkm => by
          have hq := HNone.out (fun i hi => HNo.out h1 i (by have := HLn.out; omega))
          rcases HXY.out with ⟨_, _, e⟩ | ⟨e, _⟩
          · exact e
          · rw [hq] at e; omega
        have B13 := below_alloc wr (.cells #[.slice pa s1 k1, .slice pb s2 k2] 41)
        have VR := Vals.new wr 41 #[.slice pa s1 k1, .slice pb s2 k2]
        have VB3 := VB.alloc (.cells #[.slice pa s1 k1, .slice pb s2 k2] 41)
        have B3 := B1.alloc B1.size (.cells #[.slice pa s1 k1, .slice pb s2 k2] 41)
        have HAll := labAll_any pb s2 k2 (C.2.1.getD k zT).2 oa u cap L _ (hM.below B13 (Nat.le_refl _)) ((hL.below B1 (Nat.le_refl _)).below B13 (Nat.le_refl _)) hn5 (by omega)
        unfold AllOut at HAll
        rw [HE.out] at HAll
        obtain ⟨rr, hrr⟩ : ∃ rr, rr = (C.2.1.getD k zT).2.all (mB L) := ⟨_, rfl⟩
        simp only [← hrr] at HAll HNo HYes HLast
        clear HA hCh hM HE hkl h2 h3 hrr B1 VB B13
        go_upto_region 8 with fail
        clear e0 e1 x0 x1 x2 x3
        generalize wr.alloc (.cells #[.slice pa s1 k1, .slice pb s2 k2] 41) = wx at *
        have f1 : wx.cell? ⟨wr.heap.size, 1, none⟩ = some (.slice pb s2 k2) := VR.cell 1
        have B1 := B3
        have VB := VB3
        clear B3 VB3
        obtain ⟨x0, x1, x2, x3⟩ := boxC VB
        cases rr with
        | true =>
          obtain ⟨hx, hy⟩ := HYes.out (by first | rfl | trivial)
          have hy0 : (y != 0) = false := by simp [hy]
          have hx0 : (x != (k : Int)) = false := by simp [hx]
          clear HNo HYes HLast HHit HNone HEv HLn HXY hx hy
          go_wp2_with fail
          refine HAll.mono ?_
          rintro e w5 ⟨rfl, B'⟩
          have B2 := B1.trans (B'.mono B1.size)
          have V2 := VB.keep B' (Nat.le_refl _)
          clear B1 VB x0 x1 x2 x3 B'
          have B1 := B2
          have VB := V2
          clear B2 V2
          obtain ⟨x0, x1, x2, x3⟩ := boxC VB
          clear f1 VR HAll
          go_upto_region 17 with fail
          have hAR := VB.lt
          have hro := hC.qs.room
          obtain ⟨R, hR⟩ : ∃ R, w5.heap.size = R := ⟨_, rfl⟩
          obtain ⟨v, hv, ev, hvn, hv3⟩ := minN_of m2 3
          change min (m2 : Int) 3 = (v : Int) at ev
          have U1 := (Vals.new w5 3 #[.int .i64 0]).alloc (.cells #[.slice (some ⟨R, 0, none⟩) 1 1, .slice none 0 0] 41)
          have BA := B1.alloc B1.size (.cells #[.int .i64 0] 3)
          have B2 := BA.alloc BA.size (.cells #[.slice (some ⟨R, 0, none⟩) 1 1, .slice none 0 0] 41)
          have VB2 := (VB.alloc (.cells #[.int .i64 0] 3)).alloc (.cells #[.slice (some ⟨R, 0, none⟩) 1 1, .slice none 0 0] 41)
          have VN := Vals.new (w5.alloc (.cells #[.int .i64 0] 3)) 41 #[.slice (some ⟨R, 0, none⟩) 1 1, .slice none 0 0]
          rw [hR] at U1
          rw [World.size_alloc, hR] at VN
          have hs2 : ((w5.alloc (.cells #[.int .i64 0] 3)).alloc (.cells #[.slice (some ⟨R, 0, none⟩) 1 1, .slice none 0 0] 41)).heap.size = R + 1 + 1 := by rw [World.size_alloc, World.size_alloc, hR]
          have hRB : w.heap.size ≤ R := by have := B1.size; omega
          have hAR2 : w.heap.size < R := by omega
          have own0 : ((w5.alloc (.cells #[.int .i64 0] 3)).alloc (.cells #[.slice (some ⟨R, 0, none⟩) 1 1, .slice none 0 0] 41)).ownsRow w.heap.size 41 2 (.slice (some ⟨R + 1, 0, none⟩) 1 1) 1 [.slice (some ⟨R, 0, none⟩) 1 1, .slice none 0 0] := ⟨rfl, .inr ⟨R + 1, 1, _, rfl, by omega, VN, Nat.le_refl _, by decide, rfl, rfl⟩⟩
          have HOwn := Lib.hid own0
          obtain ⟨qs, hqs, hraw⟩ := hC.qs.raw
          have HRaw := Lib.hid hraw
          have HCells : Hid (∀ i, i < (qs.take v).length → ((w5.alloc (.cells #[.int .i64 0] 3)).alloc (.cells #[.slice (some ⟨R, 0, none⟩) 1 1, .slice none 0 0] 41)).cell? ⟨g, o + i * 2, none⟩ = some ((qs.take v).getD i zQ).1 ∧ ((w5.alloc (.cells #[.int .i64 0] 3)).alloc (.cells #[.slice (some ⟨R, 0, none⟩) 1 1, .slice none 0 0] 41)).cell? ⟨g, o + i * 2 + 1, none⟩ = some ((qs.take v).getD i zQ).2) := fun i hi => by
            rw [List.length_take] at hi
            obtain ⟨g', o', pa, a1, a2, pb, a3, a4, e, _, q1, q2, _, _⟩ := HRaw.out i (by omega)
            cases e
            rw [getD_take zQ qs (by omega)]
            have b1 := World.block_lt_of_cell? w _ q1
            have b2 := World.block_lt_of_cell? w _ q2
            exact ⟨(B2.cell b1).trans q1, (B2.cell b2).trans q2⟩
          have HOne : Hid (∀ i, i < (qs.take v).length → ∃ (pa : Option Addr) (n1 c1 : Nat) (pb : Option Addr) (n2 c2 : Nat), (qs.take v).getD i zQ = (.slice pa n1 c1, .slice pb n2 c2)) := fun i hi => by
            rw [List.length_take] at hi
            obtain ⟨g', o', pa, a1, a2, pb, a3, a4, e, e2, _⟩ := HRaw.out i (by omega)
            rw [getD_take zQ qs (by omega)]
            exact ⟨pa, a1, a2, pb, a3, a4, e2⟩
          have hqv : (qs.take v).length = v := by rw [List.length_take]; omega
          have HQs := Lib.hid hqs
          have HB2 := Lib.hid B2
          have HVB2 := Lib.hid VB2
          have HU1 := Lib.hid U1
          clear hraw hqs own0 B2 VB2 U1 BA VN hAR B1 VB hv
          go_upto_region 18 with (first | (at_builtin; refine wpList_append_rs _ rfl (.tmp 68) (.tmp 75) rfl w.heap.size rfl HOwn.out rfl hqv HCells.out HOne.out (by omega) (by omega) ?_; intro v1 w9 own1 hg1; obtain ⟨oz, cz, rfl⟩ := slice_of own1; have VB9 := Vals.grewF HVB2.out hg1 (by intro hh; have q : w.heap.size = R + 1 := Option.some.inj hh; omega); obtain ⟨y0, y1, y2, y3⟩ := boxC VB9; have f1 := VB9.free 1; have HO1 := Lib.hid own1; have HG1 := Lib.hid hg1; clear own1 hg1) | go_in)
          have B9 : Below w.heap.size w w9 := HB2.out.grown HG1.out (by rw [hs2]; omega) (fun j hj => by have q : R + 1 = j := Option.some.inj hj; omega)
          have U9 := Vals.grewF HU1.out HG1.out (by intro hh; have q : R = R + 1 := Option.some.inj hh; omega)
          have V10 : Vals (w9.setCell ⟨w.heap.size, 1, none⟩ (.slice oz (1 + v) cz)) w.heap.size 25 (cfgV (.slice o1 m1 c1) (.slice oz (1 + v) cz) C.2.2.1 C.2.2.2) := by
            have := VB9.set 1 (.slice oz (1 + v) cz)
            simpa using this
          have own10 := own_setT HO1.out VB9 (by decide) 1 (.slice oz (1 + v) cz)
          have U10 := U9.other (by omega : R ≠ w.heap.size) 1 (.slice oz (1 + v) cz)
          have B10 := B9.setCell (p := ⟨w.heap.size, 1, none⟩) (Nat.le_refl _) (.slice oz (1 + v) cz)
          have hv' : min m2 3 = v := by omega
          have hCF := front_at hC HRaw.out HQs.out hv' own10 U10 B10
          clear HVB2 HB2 HU1 HOwn HRaw HCells HOne HQs HO1 HG1 x0 x1 x2 x3 y0 y1 y2 y3 f1 VB9 B9 U9 own10 U10 hs2
          generalize w9.setCell ⟨w.heap.size, 1, none⟩ (.slice oz (1 + v) cz) = w10 at *
          have VB := V10
          have B1 := B10
          clear V10 B10
          obtain ⟨x0, x1, x2, x3⟩ := boxC VB
          have HC2 := choose_any o1 m1 c1 oz (1 + v) cz (front C) oa u cap L w10 hCF (hL.below B1 (Nat.le_refl _)) hn5
          unfold ChooseOut at HC2
          rw [HFr.out] at HC2
          dsimp only [aggC, front] at HC2
          clear hCF hC hL
          go_wp2_with fail
          refine HC2.mono ?_
          rintro e w11 ⟨rfl, B'⟩
          have B2 := B1.trans (B'.mono B1.size)
          have V2 := VB.keep B' (Nat.le_refl _)
          clear B1 VB x0 x1 x2 x3 B'
          have B1 := B2
          have VB := V2
          clear B2 V2
          obtain ⟨x0, x1, x2, x3⟩ := boxC VB
          clear HC2
          go_wp2_with fail
          refine (HAl _).mono ?_
          rintro e w12 ⟨rfl, B'⟩
          have B2 := B1.trans (B'.mono B1.size)
          have V2 := VB.keep B' (Nat.le_refl _)
          clear B1 VB x0 x1 x2 x3 B'
          have B1 := B2
          have VB := V2
          clear B2 V2
          obtain ⟨x0, x1, x2, x3⟩ := boxC VB
          go_wp2_with fail
          go_ret
          exact ⟨by simp, B1⟩
        | false =>
          have HX := Lib.hid (HNo.out (by first | rfl | trivial))
          by_cases hkm : k + 1 = m2
          · have hy4 : (y != 4) = false := by simp [HLast.out (by first | rfl | trivial) hkm]
            clear HNo HYes HLast
            go_wp2_with fail
            refine HAll.mono ?_
            rintro e w5 ⟨rfl, B'⟩
            have B2 := B1.trans (B'.mono B1.size)
            have V2 := VB.keep B' (Nat.le_refl _)
            clear B1 VB x0 x1 x2 x3 B'
            have B1 := B2
            have VB := V2
            clear B2 V2
            obtain ⟨x0, x1, x2, x3⟩ := boxC VB
            clear f1 VR HAll
            go_wp2_with fail
            go_roundw
            case rel => exact ⟨k + 1, by omega, by go_num, VB, B1, HX⟩
            case measure => simp [intOf]; omega
          · have hkq : ((k : Int) == (m2 : Int) - 1) = false := by rw [beq_eq_false_iff_ne]; omega
            clear HNo HYes HLast
            go_wp2_with fail
            refine HAll.mono ?_
            rintro e w5 ⟨rfl, B'⟩
            have B2 := B1.trans (B'.mono B1.size)
            have V2 := VB.keep B' (Nat.le_refl _)
            clear B1 VB x0 x1 x2 x3 B'
            have B1 := B2
            have VB := V2
            clear B2 V2
            obtain ⟨x0, x1, x2, x3⟩ := boxC VB
            clear f1 VR HAll
            go_wp2_with fail
            go_roundw
            case rel => exact ⟨k + 1, by omega, by go_num, VB, B1, HX⟩
            case measure => simp [intOf]; omega
      · obtain rfl : m2 = k := by omega
        clear HA HHit HNone HEv HLn HXY
        go_upto_region 17 with fail
        have hAR := VB.lt
        have hro := hC.qs.room
        obtain ⟨R, hR⟩ : ∃ R, wr.heap.size = R := ⟨_, rfl⟩
        obtain ⟨v, hv, ev, hvn, hv3⟩ := minN_of m2 3
        change min (m2 : Int) 3 = (v : Int) at ev
        have U1 := (Vals.new wr 3 #[.int .i64 0]).alloc (.cells #[.slice (some ⟨R, 0, none⟩) 1 1, .slice none 0 0] 41)
        have BA := B1.alloc B1.size (.cells #[.int .i64 0] 3)
        have B2 := BA.alloc BA.size (.cells #[.slice (some ⟨R, 0, none⟩) 1 1, .slice none 0 0] 41)
        have VB2 := (VB.alloc (.cells #[.int .i64 0] 3)).alloc (.cells #[.slice (some ⟨R, 0, none⟩) 1 1, .slice none 0 0] 41)
        have VN := Vals.new (wr.alloc (.cells #[.int .i64 0] 3)) 41 #[.slice (some ⟨R, 0, none⟩) 1 1, .slice none 0 0]
        rw [hR] at U1
        rw [World.size_alloc, hR] at VN
        have hs2 : ((wr.alloc (.cells #[.int .i64 0] 3)).alloc (.cells #[.slice (some ⟨R, 0, none⟩) 1 1, .slice none 0 0] 41)).heap.size = R + 1 + 1 := by rw [World.size_alloc, World.size_alloc, hR]
        have hRB : w.heap.size ≤ R := by have := B1.size; omega
        have hAR2 : w.heap.size < R := by omega
        have own0 : ((wr.alloc (.cells #[.int .i64 0] 3)).alloc (.cells #[.slice (some ⟨R, 0, none⟩) 1 1, .slice none 0 0] 41)).ownsRow w.heap.size 41 2 (.slice (some ⟨R + 1, 0, none⟩) 1 1) 1 [.slice (some ⟨R, 0, none⟩) 1 1, .slice none 0 0] := ⟨rfl, .inr ⟨R + 1, 1, _, rfl, by omega, VN, Nat.le_refl _, by decide, rfl, rfl⟩⟩
        have HOwn := Lib.hid own0
        obtain ⟨qs, hqs, hraw⟩ := hC.qs.raw
        have HRaw := Lib.hid hraw
        obtain ⟨g, o, pa0, s1, k1, pb0, s2, k2, rfl, _⟩ := hraw 0 (by omega)
        have HCells : Hid (∀ i, i < (qs.take v).length → ((wr.alloc (.cells #[.int .i64 0] 3)).alloc (.cells #[.slice (some ⟨R, 0, none⟩) 1 1, .slice none 0 0] 41)).cell? ⟨g, o + i * 2, none⟩ = some ((qs.take v).getD i zQ).1 ∧ ((wr.alloc (.cells #[.int .i64 0] 3)).alloc (.cells #[.slice (some ⟨R, 0, none⟩) 1 1, .slice none 0 0] 41)).cell? ⟨g, o + i * 2 + 1, none⟩ = some ((qs.take v).getD i zQ).2) := fun i hi => by
          rw [List.length_take] at hi
          obtain ⟨g', o', pa, a1, a2, pb, a3, a4, e, _, q1, q2, _, _⟩ := HRaw.out i (by omega)
          cases e
          rw [getD_take zQ qs (by omega)]
          have b1 := World.block_lt_of_cell? w _ q1
          have b2 := World.block_lt_of_cell? w _ q2
          exact ⟨(B2.cell b1).trans q1, (B2.cell b2).trans q2⟩
        have HOne : Hid (∀ i, i < (qs.take v).length → ∃ (pa : Option Addr) (n1 c1 : Nat) (pb : Option Addr) (n2 c2 : Nat), (qs.take v).getD i zQ = (.slice pa n1 c1, .slice pb n2 c2)) := fun i hi => by
          rw [List.length_take] at hi
          obtain ⟨g', o', pa, a1, a2, pb, a3, a4, e, e2, _⟩ := HRaw.out i (by omega)
          rw [getD_take zQ qs (by omega)]
          exact ⟨pa, a1, a2, pb, a3, a4, e2⟩
        have hqv : (qs.take v).length = v := by rw [List.length_take]; omega
        have HQs := Lib.hid hqs
        have HB2 := Lib.hid B2
        have HVB2 := Lib.hid VB2
        have HU1 := Lib.hid U1
        clear hraw hqs own0 B2 VB2 U1 BA VN hAR B1 VB hv
        go_upto_region 18 with (first | (at_builtin; refine wpList_append_rs _ rfl (.tmp 68) (.tmp 75) rfl w.heap.size rfl HOwn.out rfl hqv HCells.out HOne.out (by omega) (by omega) ?_; intro v1 w9 own1 hg1; obtain ⟨oz, cz, rfl⟩ := slice_of own1; have VB9 := Vals.grewF HVB2.out hg1 (by intro hh; have q : w.heap.size = R + 1 := Option.some.inj hh; omega); obtain ⟨y0, y1, y2, y3⟩ := boxC VB9; have f1 := VB9.free 1; have HO1 := Lib.hid own1; have HG1 := Lib.hid hg1; clear own1 hg1) | go_in)
        have B9 : Below w.heap.size w w9 := HB2.out.grown HG1.out (by rw [hs2]; omega) (fun j hj => by have q : R + 1 = j := Option.some.inj hj; omega)
        have U9 := Vals.grewF HU1.out HG1.out (by intro hh; have q : R = R + 1 := Option.some.inj hh; omega)
        have V10 : Vals (w9.setCell ⟨w.heap.size, 1, none⟩ (.slice oz (1 + v) cz)) w.heap.size 25 (cfgV (.slice o1 m1 c1) (.slice oz (1 + v) cz) C.2.2.1 C.2.2.2) := by
          have := VB9.set 1 (.slice oz (1 + v) cz)
          simpa using this
        have own10 := own_setT HO1.out VB9 (by decide) 1 (.slice oz (1 + v) cz)
        have U10 := U9.other (by omega : R ≠ w.heap.size) 1 (.slice oz (1 + v) cz)
        have B10 := B9.setCell (p := ⟨w.heap.size, 1, none⟩) (Nat.le_refl _) (.slice oz (1 + v) cz)
        have hv' : min m2 3 = v := by omega
        have hCF := front_at hC HRaw.out HQs.out hv' own10 U10 B10
        clear HVB2 HB2 HU1 HOwn HRaw HCells HOne HQs HO1 HG1 x0 x1 x2 x3 y0 y1 y2 y3 f1 VB9 B9 U9 own10 U10 hs2
        generalize w9.setCell ⟨w.heap.size, 1, none⟩ (.slice oz (1 + v) cz) = w10 at *
        have VB := V10
        have B1 := B10
        clear V10 B10
        obtain ⟨x0, x1, x2, x3⟩ := boxC VB
        have HC2 := choose_any o1 m1 c1 oz (1 + v) cz (front C) oa u cap L w10 hCF (hL.below B1 (Nat.le_refl _)) hn5
        unfold ChooseOut at HC2
        rw [HFr.out] at HC2
        dsimp only [aggC, front] at HC2
        clear hCF hC hL
        go_wp2_with fail
        refine HC2.mono ?_
        rintro e w11 ⟨rfl, B'⟩
        have B2 := B1.trans (B'.mono B1.size)
        have V2 := VB.keep B' (Nat.le_refl _)
        clear B1 VB x0 x1 x2 x3 B'
        have B1 := B2
        have VB := V2
        clear B2 V2
        obtain ⟨x0, x1, x2, x3⟩ := boxC VB
        clear HC2
        go_wp2_with fail
        refine (HAl _).mono ?_
        rintro e w12 ⟨rfl, B'⟩
        have B2 := B1.trans (B'.mono B1.size)
        have V2 := VB.keep B' (Nat.le_refl _)
        clear B1 VB x0 x1 x2 x3 B'
        have B1 := B2
        have VB := V2
        clear B2 V2
        obtain ⟨x0, x1, x2, x3⟩ := boxC VB
        go_wp2_with fail
        go_ret
        exact ⟨by simp, B1⟩
end Go.Proofs.Ytplfmphhmlkejaa
