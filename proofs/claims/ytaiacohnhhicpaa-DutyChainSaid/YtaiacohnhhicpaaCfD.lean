/-
  The program's own: which configs may be (package config).
-/
import Derived.Test.YtaiacohnhhicpaaCfC
namespace Go.Proofs.Ytaiacohnhhicpaa
open Go.RowKit Go.Shelf
set_option linter.unusedVariables false

def rtsB (N : Nat) (l : List T2) : Bool := numberB l.length && l.all (rteR N)
theorem getD_T (l : List T2) (k : Nat) (hk : k < l.length) : l.getD k zT = l[k] := by
  rw [List.getD_eq_getElem?_getD, List.getElem?_eq_getElem hk]; rfl
theorem rtsB_iff (N : Nat) (l : List T2) : rtsB N l = true ↔ numberB l.length = true ∧ ∀ i, i < l.length → rteR N (l.getD i zT) = true := by
  unfold rtsB
  simp only [Bool.and_eq_true, List.all_eq_true]
  constructor
  · rintro ⟨h1, h2⟩
    exact ⟨h1, fun i hi => h2 _ (by rw [getD_T l i hi]; exact List.getElem_mem _)⟩
  · rintro ⟨h1, h2⟩
    refine ⟨h1, fun t ht => ?_⟩
    obtain ⟨i, hi, rfl⟩ := List.getElem_of_mem ht
    have := h2 i hi
    rwa [getD_T _ i hi] at this
theorem cfgR_is (c : CfgL) : cfgR c = (rcvsB c.1 && (rtsB c.1.length c.2.1 && (oftenB c.2.2.1 && oftenB c.2.2.2))) := by
  unfold cfgR rcvsB rtsB
  rw [Bool.eq_iff_iff]
  simp only [Bool.and_eq_true, decide_eq_true_eq]
  constructor
  · rintro ⟨⟨h1, h2⟩, h3, h4, h5, h6, h7⟩
    exact ⟨⟨h4, h1, h2⟩, ⟨h5, h3⟩, h6, h7⟩
  · rintro ⟨⟨h4, h1, h2⟩, ⟨h5, h3⟩, h6, h7⟩
    exact ⟨⟨h1, h2⟩, h3, h4, h5, h6, h7⟩
set_option maxRecDepth 100000 in
set_option maxHeartbeats 3200000 in
theorem rts_c (N : Nat) (oa : Option Addr) (n cap : Nat) (l : List T2) (w : World) (h : Qs w oa n cap l) (hn : n ≤ 9223372036854775807) (hN : N ≤ 9223372036854775807) (hb : ∀ i, i < l.length → (l.getD i zT).1.length ≤ 9223372036854775807 ∧ (l.getD i zT).2.length ≤ 9223372036854775807) :
    Calls Try.prog 56 #[.slice oa n cap, .int .i64 (N : Int)] w fun e w' => e = .returned (.bool (rtsB N l)) ∧ Below w.heap.size w w' := by
  have HL := Lib.hid h.len
  have hr := h.room
  have HBo := Lib.hid hb
  clear hb
  have HI := Lib.hid (rtsB_iff N l)
  have HW := fun r w (hr : r = inC (n : Int) 1 4) => within_ci n 1 4 r w hr
  have hnb := number_in n
  cases hb : numberB n with
  | false =>
    have HF : Hid (rtsB N l = false) := by
      show _ = _
      unfold rtsB
      rw [HL.out, hb]
      rfl
    have HQ := fun w => HW false w (by rw [← hnb, hb])
    clear HI HW hnb hb h
    go_enter Try.func56, Try.ntmps56
    go_wp2_with fail
    refine (HQ _).mono ?_
    rintro e w2 ⟨rfl, rfl⟩
    go_wp2_with fail
    go_ret
    exact ⟨retB HF.out.symm, Below.refl _ _⟩
  | true =>
    have HQ := fun w => HW true w (by rw [← hnb, hb])
    have HT : Hid ((∀ i, i < n → rteR N (l.getD i zT) = true) → rtsB N l = true) := fun h => HI.out.2 ⟨by rw [HL.out, hb], fun i hi => h i (by rw [← HL.out]; exact hi)⟩
    have HF : Hid (∀ k, k < n → rteR N (l.getD k zT) = false → rtsB N l = false) := fun k hk h => by
      cases hb2 : rtsB N l with
      | false => rfl
      | true =>
        have := (HI.out.1 hb2).2 k (by rw [HL.out]; exact hk)
        rw [h] at this
        exact absurd this (by simp)
    clear HI HW hnb hb
    go_enter Try.func56, Try.ntmps56
    go_wp2_with fail
    refine (HQ _).mono ?_
    rintro e w2 ⟨rfl, rfl⟩
    clear HQ
    go_wp2_with fail
    go_loopw [13] (fun s13 wr => ∃ k : Nat, k ≤ n ∧ s13 = .int .i64 k ∧ Below w.heap.size w wr ∧ Hid (∀ i, i < k → rteR N (l.getD i zT) = true)) (fun s13 _ => n - (intOf s13).toNat)
    case atStart => exact ⟨0, Nat.zero_le _, rfl, Below.refl _ _, fun i hi => absurd hi (by omega)⟩
    case round =>
      obtain ⟨k, hk, rfl, hB, HA⟩ := hrel
      by_cases hlt : k < n
      · obtain ⟨g, o, pa, n1, c1, pb, n2, c2, rfl, e0, e1, hC, hM⟩ := (h.below hB (Nat.le_refl _)).cell k hlt
        have HNo := Lib.hid (HF.out k hlt)
        have HYes : Hid (rteR N (l.getD k zT) = true → ∀ i, i < k + 1 → rteR N (l.getD i zT) = true) := fun h1 i hi => by
          by_cases e : i = k
          · subst e; exact h1
          · exact HA.out i (by omega)
        have hbo := HBo.out k (by have := HL.out; omega)
        have h1 := hC.len
        have h2 := hM.len
        have hn1 : n1 ≤ 9223372036854775807 := by omega
        have hn2 : n2 ≤ 9223372036854775807 := by omega
        have VB := Vals.new wr 43 #[.slice pa n1 c1, .slice pb n2 c2]
        have B3 := hB.alloc hB.size (.cells #[.slice pa n1 c1, .slice pb n2 c2] 43)
        have B13 := below_alloc wr (.cells #[.slice pa n1 c1, .slice pb n2 c2] 43)
        have HRc := route_c N pa n1 c1 pb n2 c2 (l.getD k zT) _ (hC.below B13 (Nat.le_refl _)) (hM.below B13 (Nat.le_refl _)) hn1 hn2 hN
        obtain ⟨rr, hrr⟩ : ∃ rr, rr = rteR N (l.getD k zT) := ⟨_, rfl⟩
        simp only [← hrr] at HRc HNo HYes
        clear HA HF h HBo hbo h1 h2 hC hM hrr
        go_upto_region 6 with fail
        clear e0 e1
        generalize wr.alloc (.cells #[.slice pa n1 c1, .slice pb n2 c2] 43) = w3 at *
        have d0 : w3.cell? ⟨wr.heap.size, 0, none⟩ = some (.slice pa n1 c1) := VB.cell 0
        have d1 : w3.cell? ⟨wr.heap.size, 1, none⟩ = some (.slice pb n2 c2) := VB.cell 1
        cases rr with
        | false =>
          have HX := Lib.hid (HNo.out (by first | rfl | trivial))
          clear HNo HYes
          go_wp2_with fail
          refine HRc.mono ?_
          rintro e w4 ⟨rfl, B4⟩
          go_wp2_with fail
          go_ret
          exact ⟨retB HX.out.symm, B3.trans (B4.mono B3.size)⟩
        | true =>
          have HX := Lib.hid (HYes.out (by first | rfl | trivial))
          clear HNo HYes
          go_wp2_with fail
          refine HRc.mono ?_
          rintro e w4 ⟨rfl, B4⟩
          have B5 := B3.trans (B4.mono B3.size)
          go_wp2_with fail
          go_roundw
          case rel => exact ⟨k + 1, by omega, by go_num, B5, HX⟩
          case measure => simp [intOf]; omega
      · obtain rfl : k = n := by omega
        have HX := Lib.hid (HT.out HA.out)
        clear h HA HF HT
        go_wp2_with fail
        go_ret
        exact ⟨retB HX.out.symm, hB⟩
set_option maxRecDepth 100000 in
set_option maxHeartbeats 3200000 in
theorem cfg_c (c : CfgL) (o1 : Option Addr) (n1 c1 : Nat) (o2 : Option Addr) (n2 c2 : Nat) (w : World) (h1 : Rs w o1 n1 c1 c.1) (h2 : Qs w o2 n2 c2 c.2.1) (hn : n1 ≤ 9223372036854775807) (hm : n2 ≤ 9223372036854775807)
    (hb : ∀ i, i < c.2.1.length → (c.2.1.getD i zT).1.length ≤ 9223372036854775807 ∧ (c.2.1.getD i zT).2.length ≤ 9223372036854775807) :
    Calls Try.prog 39 #[.agg (cfgV (.slice o1 n1 c1) (.slice o2 n2 c2) c.2.2.1 c.2.2.2)] w fun e w' => e = .returned (.bool (cfgR c)) ∧ Below w.heap.size w w' := by
  obtain ⟨rs, ts, rep, beat⟩ := c
  dsimp only at *
  have V0 := Vals.new w 33 (cfgV (.slice o1 n1 c1) (.slice o2 n2 c2) rep beat)
  have B0 := below_alloc w (.cells (cfgV (.slice o1 n1 c1) (.slice o2 n2 c2) rep beat) 33)
  have h11 := h1.below B0 (Nat.le_refl _)
  have h21 := h2.below B0 (Nat.le_refl _)
  have hl1 := h1.len
  have H1 := rcvs_c o1 n1 c1 rs _ h11 hn
  have H2 := fun wx (B : Below (w.alloc (.cells (cfgV (.slice o1 n1 c1) (.slice o2 n2 c2) rep beat) 33)).heap.size (w.alloc (.cells (cfgV (.slice o1 n1 c1) (.slice o2 n2 c2) rep beat) 33)) wx) => rts_c n1 o2 n2 c2 ts wx (h21.below B (Nat.le_refl _)) hm (by omega) hb
  have H3 := fun w => wait_c rep w
  have H4 := fun w => wait_c beat w
  have HR : Hid (cfgR (rs, ts, rep, beat) = (rcvsB rs && (rtsB n1 ts && (oftenB rep && oftenB beat)))) := by
    show _ = _
    rw [cfgR_is]
    dsimp only
    rw [hl1]
  clear h1 h2 h11 h21 hb hl1
  generalize rcvsB rs = x1 at *
  generalize rtsB n1 ts = x2 at *
  generalize oftenB rep = x3 at *
  generalize oftenB beat = x4 at *
  go_enter Try.func39, Try.ntmps39
  go_upto_region 1 with fail
  generalize w.alloc (.cells (cfgV (.slice o1 n1 c1) (.slice o2 n2 c2) rep beat) 33) = w1 at *
  have p0 : w1.cell? ⟨w.heap.size, 0, none⟩ = some (.slice o1 n1 c1) := V0.cell 0
  cases x1 with
  | false =>
    go_wp2_with fail
    refine H1.mono ?_
    rintro e w2 ⟨rfl, B2⟩
    go_wp2_with fail
    go_ret
    exact ⟨retB (by rw [HR.out]; rfl), B0.trans (B2.mono B0.size)⟩
  | true =>
    go_wp2_with fail
    refine H1.mono ?_
    rintro e w2 ⟨rfl, B2⟩
    have V2 := V0.keep B2 (Nat.le_refl _)
    have B02 := B0.trans (B2.mono B0.size)
    have H22 := H2 _ B2
    clear p0 H2 H1
    have p0 : w2.cell? ⟨w.heap.size, 0, none⟩ = some (.slice o1 n1 c1) := V2.cell 0
    have p1 : w2.cell? ⟨w.heap.size, 1, none⟩ = some (.slice o2 n2 c2) := V2.cell 1
    cases x2 with
    | false =>
      go_wp2_with fail
      refine H22.mono ?_
      rintro e w3 ⟨rfl, B3⟩
      go_wp2_with fail
      go_ret
      exact ⟨retB (by rw [HR.out]; rfl), B02.trans (B3.mono B02.size)⟩
    | true =>
      go_wp2_with fail
      refine H22.mono ?_
      rintro e w3 ⟨rfl, B3⟩
      have V3 := V2.keep B3 (Nat.le_refl _)
      have B03 := B02.trans (B3.mono B02.size)
      clear p0 p1 H22
      have p2 : w3.cell? ⟨w.heap.size, 2, none⟩ = some (.int .i64 rep) := V3.cell 2
      have p3 : w3.cell? ⟨w.heap.size, 3, none⟩ = some (.int .i64 beat) := V3.cell 3
      cases x3 with
      | false =>
        go_wp2_with fail
        refine (H3 _).mono ?_
        rintro e w4 ⟨rfl, rfl⟩
        go_wp2_with fail
        go_ret
        exact ⟨retB (by rw [HR.out]; rfl), B03⟩
      | true =>
        go_wp2_with fail
        refine (H3 _).mono ?_
        rintro e w4 ⟨rfl, rfl⟩
        go_wp2_with fail
        refine (H4 _).mono ?_
        rintro e w4 ⟨rfl, rfl⟩
        go_wp2_with fail
        go_ret
        exact ⟨retB (by rw [HR.out]; rfl), B03⟩
end Go.Proofs.Ytaiacohnhhicpaa
