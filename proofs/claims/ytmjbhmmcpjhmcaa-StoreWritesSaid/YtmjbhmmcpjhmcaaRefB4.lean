/-
  The document's own answers for a log: its small functions; whether a sector is a record in its place; the newest header; a new store.
-/
import Derived.Test.YtmjbhmmcpjhmcaaLogX
namespace Go.Proofs.Ytmjbhmmcpjhmcaa
open Go.RowKit
set_option linter.unusedVariables false

theorem rarea_any (oa : Option Addr) (n cap : Nat) (ss : List ByteArray) (w : World) (hl : ss.length = n) (hn : n ≤ 1000) :
    Calls Try.prog 24 #[.agg #[.slice oa n cap]] w fun e w' => e = .returned (.int .i64 (roomZ ss)) ∧ Below w.heap.size w w' := by
  go_enter Try.func24, Try.ntmps24
  go_wp2
  go_ret
  exact ⟨ret_int (by unfold roomZ; rw [hl]), below_alloc w _⟩
set_option maxHeartbeats 800000 in
theorem rlog_any (oa : Option Addr) (n cap : Nat) (ss : List ByteArray) (w : World) (hR : Rd w oa n cap ss) (hn : n ≤ 1000) :
    Calls Try.prog 18 #[.agg #[.slice oa n cap]] w fun e w' => e = .returned (.bool (logB ss)) ∧ Below w.heap.size w w' := by
  have hR1 := hR.below (below_alloc w (.cells #[.slice oa n cap] 24)) (Nat.le_refl _)
  have hlen := Lib.hid hR.len
  go_enter Try.func18, Try.ntmps18
  go_wp2_with fail
  refine (rright_any _ _ _ _ _ hR1 hn).mono ?_
  rintro e w1 ⟨rfl, hB⟩
  have hB0 := (below_alloc w (.cells #[.slice oa n cap] 24)).trans (hB.mono (by simp))
  have hc1 : w1.cell? ⟨w.heap.size, 0, none⟩ = some (.slice oa n cap) := (hB.cell (p := ⟨w.heap.size, 0, none⟩) (by simp)).trans (World.cell?_alloc_at _ _ _ _ rfl)
  clear hR1 hB
  cases hr : rightB ss
  · have HR := Lib.hid hr
    clear hr
    go_wp2
    go_ret
    exact ⟨ret_bool (by unfold logB; rw [HR.out]; rfl), hB0⟩
  have HR := Lib.hid hr
  clear hr
  go_wp2
  go_ret
  exact ⟨ret_bool (by unfold logB; rw [HR.out, hlen.out, Bool.true_and]; rw [Bool.eq_iff_iff]; simp; omega), hB0⟩
set_option maxHeartbeats 800000 in
theorem rplace_any (oa : Option Addr) (n cap : Nat) (ss : List ByteArray) (g i : Int) (w : World) (hl : ss.length = n) (hn : n ≤ 1000) (h0 : 0 ≤ g) (h1 : g ≤ 1000) (h2 : 0 ≤ i) (h3 : i ≤ 1000) :
    Calls Try.prog 48 #[.agg #[.slice oa n cap], .int .i64 g, .int .i64 i] w fun e w' => e = .returned (.int .i64 (recZ ss g i)) ∧ Below w.heap.size w w' := by
  have hc : (w.alloc (.cells #[.slice oa n cap] 24)).cell? ⟨w.heap.size, 0, none⟩ = some (.slice oa n cap) := World.cell?_alloc_at _ _ _ _ rfl
  have hB0 := below_alloc w (.cells #[.slice oa n cap] 24)
  have hr1 : -1 ≤ roomZ ss := by unfold roomZ; omega
  have hr2 : roomZ ss ≤ 1000 := by unfold roomZ; omega
  by_cases hz : g % 2 = 0
  · have HZ : Hid (2 + i = recZ ss g i) := by show _ = _; unfold recZ; rw [hz]; omega
    have hz2 : (g % 2 == 0) = true := by rw [beq_iff_eq]; exact hz
    clear hz
    go_enter Try.func48, Try.ntmps48
    go_wp2
    go_ret
    exact ⟨ret_int HZ.out, hB0⟩
  · have HZ : Hid (2 + roomZ ss + i = recZ ss g i) := by show _ = _; unfold recZ; rw [show g % 2 = 1 by omega]; omega
    have hz2 : (g % 2 == 0) = false := by rw [beq_eq_false_iff_ne]; exact hz
    clear hz
    go_enter Try.func48, Try.ntmps48
    go_wp2_with fail
    refine (rarea_any _ _ _ ss _ hl hn).mono ?_
    rintro e w1 ⟨rfl, hB⟩
    generalize roomZ ss = r at *
    go_wp2
    go_ret
    exact ⟨ret_int HZ.out, hB0.trans (hB.mono hB0.size)⟩
/-- what is asked of a fault -/
theorem rfault_any (f : Int × Int) (w : World) :
    Calls Try.prog 23 #[.agg #[.int .i64 f.1, .int .i64 f.2]] w fun e w' => e = .returned (.bool (faultB f)) ∧ Below w.heap.size w w' := by
  have hB0 := below_alloc w (.cells #[.int .i64 f.1, .int .i64 f.2] 44)
  have E : Hid (faultB f = (decide (0 ≤ f.1) && decide (f.1 ≤ 2) && (decide (0 ≤ f.2) && decide (f.2 ≤ 128)))) := rfl
  generalize faultB f = b at *
  generalize f.1 = x at *
  generalize f.2 = y at *
  by_cases h1 : 0 ≤ x
  · by_cases h2 : x ≤ 2
    · by_cases h3 : 0 ≤ y
      · by_cases h4 : y ≤ 128
        · go_enter Try.func23, Try.ntmps23
          go_wp2
          go_ret
          exact ⟨ret_bool (by rw [E.out]; simp [h1, h2, h3, h4]), hB0⟩
        · go_enter Try.func23, Try.ntmps23
          go_wp2
          go_ret
          exact ⟨ret_bool (by rw [E.out]; simp [h1, h2, h3, h4]), hB0⟩
      · have B := Lib.hid (decide_eq_false h3)
        go_enter Try.func23, Try.ntmps23
        go_wp2
        go_ret
        exact ⟨ret_bool (by rw [E.out, B.out]; simp), hB0⟩
    · have B := Lib.hid (decide_eq_false h2)
      go_enter Try.func23, Try.ntmps23
      go_wp2
      go_ret
      exact ⟨ret_bool (by rw [E.out, B.out]; simp), hB0⟩
  · have B := Lib.hid (decide_eq_false h1)
    go_enter Try.func23, Try.ntmps23
    go_wp2
    go_ret
    exact ⟨ret_bool (by rw [E.out, B.out]; simp), hB0⟩
set_option maxHeartbeats 800000 in
theorem rnext_any (x : Value) (g u t : Int) (d : Bool) (w : World) (hx : x.oneCell' = true) (h0 : 0 ≤ g) (h1 : g ≤ 1000) (h2 : 0 ≤ t) (h3 : t ≤ 900) :
    Calls Try.prog 28 #[.agg #[x, .int .i64 g, .int .i64 u, .int .i64 t, .bool d]] w fun e w' => e = .returned (.int .i64 (nextZ g t)) ∧ Below w.heap.size w w' := by
  have hB0 := below_alloc w (.cells #[x, .int .i64 g, .int .i64 u, .int .i64 t, .bool d] 26)
  by_cases hz : (t + 1) % 2 = g % 2
  · have HZ : Hid (nextZ g t = t + 2) := by show _ = _; unfold nextZ; rw [if_pos hz]
    have hz' : ((t + 1) % 2 == g % 2) = true := by rw [beq_iff_eq]; exact hz
    clear hz
    go_enter Try.func28, Try.ntmps28
    go_wp2
    go_ret
    exact ⟨ret_int HZ.out.symm, hB0⟩
  · have HZ := Lib.hid (next_no hz)
    have hz' : ((t + 1) % 2 == g % 2) = false := by rw [beq_eq_false_iff_ne]; exact hz
    clear hz
    go_enter Try.func28, Try.ntmps28
    go_wp2
    go_ret
    exact ⟨ret_int HZ.out.symm, hB0⟩
set_option maxHeartbeats 1600000 in
theorem rpays_any (oa : Option Addr) (n cap : Nat) (l : List ByteArray) (w : World) (hA : ARd w oa n cap l) (hn : n ≤ 1000) :
    Calls Try.prog 27 #[.slice oa n cap] w fun e w' => e = .returned (.bool (!l.any longB)) ∧ w = w' := by
  have hlen := Lib.hid hA.len
  go_enter Try.func27, Try.ntmps27
  go_wp2_with fail
  go_loop [7] (fun i => ∃ k : Nat, k ≤ n ∧ i = .int .i64 k ∧ Hid ((l.take k).any longB = false)) (fun i => n - (intOf i).toNat)
  case atStart => exact ⟨0, Nat.zero_le _, rfl, rfl⟩
  case round =>
    obtain ⟨k, hk, rfl, hno⟩ := hrel
    by_cases h8 : k < n
    · obtain ⟨b, off, rfl, hc⟩ := hA.cell k h8
      have hsz := hA.each k h8
      unfold maxLen at hsz
      have HT : Hid (l.take (k + 1) = l.take k ++ [l.getD k ByteArray.empty]) := by
        show _ = _
        rw [List.take_succ_eq_append_getElem (by rw [hlen.out]; exact h8), List.getD_eq_getElem?_getD, List.getElem?_eq_getElem (by rw [hlen.out]; exact h8)]
        rfl
      have HM := Lib.hid (show l.getD k ByteArray.empty ∈ l by
        rw [List.getD_eq_getElem?_getD, List.getElem?_eq_getElem (by rw [hlen.out]; exact h8)]
        exact List.getElem_mem _)
      have hkn : (k : Int) < (n : Int) := by omega
      generalize l.getD k ByteArray.empty = x at *
      by_cases hx : 96 < x.size
      · have hx2 : (96 : Int) < (x.size : Int) := by omega
        go_wp2
        go_ret
        exact ⟨ret_bool (by rw [eq_comm, Bool.not_eq_false', List.any_eq_true]; exact ⟨x, HM.out, long_yes hx⟩), rfl⟩
      · have hx2 : ¬ (96 : Int) < (x.size : Int) := by omega
        go_wp2
        go_round
        case rel => exact ⟨k + 1, by omega, by go_num, by show _ = _; rw [HT.out, List.any_append, hno.out]; simp [long_no hx]⟩
        case measure => simp [intOf]; omega
    · obtain rfl : k = n := by omega
      have hno' := hno.out
      rw [List.take_of_length_le (by rw [hlen.out]; exact Nat.le_refl _)] at hno'
      have HN := Lib.hid hno'
      clear hno'
      go_wp2
      go_ret
      exact ⟨ret_bool (by rw [HN.out]; rfl), rfl⟩
set_option maxHeartbeats 1600000 in
theorem rfaults_any (oa : Option Addr) (n cap : Nat) (fs : List (Int × Int)) (w : World) (hR : FRd w oa n cap fs) (hn : n ≤ 1000) :
    Calls Try.prog 26 #[.slice oa n cap] w fun e w' => e = .returned (.bool (!(fs.any fun f => !faultB f))) ∧ Below w.heap.size w w' := by
  have hlen := Lib.hid hR.len
  go_enter Try.func26, Try.ntmps26
  go_wp2_with fail
  go_loopw [7] (fun i wr => ∃ k : Nat, k ≤ n ∧ i = .int .i64 k ∧ Hid (((fs.take k).any fun f => !faultB f) = false) ∧ Below w.heap.size w wr) (fun i _ => n - (intOf i).toNat)
  case atStart => exact ⟨0, Nat.zero_le _, rfl, rfl, Below.refl _ _⟩
  case round =>
    obtain ⟨k, hk, rfl, hno, hB⟩ := hrel
    by_cases h8 : k < n
    · obtain ⟨g, o, rfl, c1, c2⟩ := (hR.below hB (Nat.le_refl _)).cell k h8
      have hkl : k < fs.length := by rw [hlen.out]; exact h8
      have HT : Hid (fs.take (k + 1) = fs.take k ++ [fs.getD k (0, 0)]) := by
        show _ = _
        rw [List.take_succ_eq_append_getElem hkl, List.getD_eq_getElem?_getD, List.getElem?_eq_getElem hkl]
        rfl
      have HM := Lib.hid (show fs.getD k (0, 0) ∈ fs by
        rw [List.getD_eq_getElem?_getD, List.getElem?_eq_getElem hkl]
        exact List.getElem_mem _)
      have HC := Lib.hid (fun wx => rfault_any (fs.getD k (0, 0)) wx)
      have hBB := hB.alloc hB.size (.cells #[.int .i64 (fs.getD k (0, 0)).1, .int .i64 (fs.getD k (0, 0)).2] 44)
      generalize fs.getD k (0, 0) = f at *
      have hj : (k : Int) < (n : Int) := by omega
      have hj0 : (0 : Int) ≤ (k : Int) := by omega
      clear hkl
      cases hf : faultB f
      · have HF := Lib.hid hf
        clear hf
        go_wp2_with fail
        refine (HC.out _).mono ?_
        rintro e w1 ⟨rfl, hB1⟩
        rw [HF.out]
        go_wp2
        go_ret
        exact ⟨ret_bool (by rw [eq_comm, Bool.not_eq_false', List.any_eq_true]; exact ⟨f, HM.out, by rw [HF.out]; rfl⟩), hBB.trans (hB1.mono hBB.size)⟩
      · have HF := Lib.hid hf
        clear hf
        go_wp2_with fail
        refine (HC.out _).mono ?_
        rintro e w1 ⟨rfl, hB1⟩
        rw [HF.out]
        have hBC := hBB.trans (hB1.mono hBB.size)
        go_wp2
        go_roundw
        case rel => exact ⟨k + 1, by omega, by go_num, by show _ = _; rw [HT.out, List.any_append, hno.out]; simp [HF.out], hBC⟩
        case measure => simp [intOf]; omega
    · obtain rfl : k = n := by omega
      have hno' := hno.out
      rw [List.take_of_length_le (by rw [hlen.out]; exact Nat.le_refl _)] at hno'
      have HN := Lib.hid hno'
      clear hno'
      go_wp2
      go_ret
      exact ⟨ret_bool (by rw [HN.out]; rfl), hB⟩
/-- which stores may be -/
theorem sto_parts (ss : List ByteArray) (g u t : Int) : stoB ss g u t = (logB ss && (decide (1 ≤ g) && decide (g ≤ 250)) && (decide (0 ≤ u) && decide (u ≤ roomZ ss)) && (decide (g ≤ t) && decide (t ≤ 250))) := rfl
set_option maxHeartbeats 3200000 in
theorem rright4_any (oa : Option Addr) (n cap : Nat) (ss : List ByteArray) (g u t : Int) (d : Bool) (w : World) (hR : Rd w oa n cap ss) (hn : n ≤ 1000) :
    Calls Try.prog 14 #[.agg #[.slice oa n cap, .int .i64 g, .int .i64 u, .int .i64 t, .bool d]] w fun e w' => e = .returned (.bool (stoB ss g u t)) ∧ Below w.heap.size w w' := by
  have hB0 := below_alloc w (.cells #[.slice oa n cap, .int .i64 g, .int .i64 u, .int .i64 t, .bool d] 26)
  obtain ⟨I, hID⟩ : ∃ I : World → Prop, I = fun wx => Rd wx oa n cap ss ∧ Below w.heap.size w wx ∧ wx.cell? ⟨w.heap.size, 0, none⟩ = some (.slice oa n cap) ∧ wx.cell? ⟨w.heap.size, 1, none⟩ = some (.int .i64 g) ∧ wx.cell? ⟨w.heap.size, 2, none⟩ = some (.int .i64 u) ∧ wx.cell? ⟨w.heap.size, 3, none⟩ = some (.int .i64 t) := ⟨_, rfl⟩
  have hI : I (w.alloc (.cells #[.slice oa n cap, .int .i64 g, .int .i64 u, .int .i64 t, .bool d] 26)) := by
    rw [hID]
    exact ⟨hR.below hB0 (Nat.le_refl _), hB0, World.cell?_alloc_at _ _ _ _ rfl, World.cell?_alloc_at _ _ _ _ rfl, World.cell?_alloc_at _ _ _ _ rfl, World.cell?_alloc_at _ _ _ _ rfl⟩
  have step : Hid (Stable I) := by
    rw [hID]
    exact (Stable.rd _ _ _ _).and ((Stable.below _).and ((Stable.cell _ _).and ((Stable.cell _ _).and ((Stable.cell _ _).and (Stable.cell _ _)))))
  have gR : Hid (∀ wx, I wx → Rd wx oa n cap ss) := by intro wx h; rw [hID] at h; exact h.1
  have gB : Hid (∀ wx, I wx → Below w.heap.size w wx) := by intro wx h; rw [hID] at h; exact h.2.1
  have gC : Hid (∀ wx, I wx → wx.cell? ⟨w.heap.size, 0, none⟩ = some (.slice oa n cap) ∧ wx.cell? ⟨w.heap.size, 1, none⟩ = some (.int .i64 g) ∧ wx.cell? ⟨w.heap.size, 2, none⟩ = some (.int .i64 u) ∧ wx.cell? ⟨w.heap.size, 3, none⟩ = some (.int .i64 t)) := by intro wx h; rw [hID] at h; exact h.2.2
  have hl := hR.len
  clear hID hB0 hR
  have gC0 : ∀ x : Cls I, x.w.cell? ⟨w.heap.size, 0, none⟩ = some (.slice oa n cap) := fun x => (gC.out _ x.is).1
  have gC1 : ∀ x : Cls I, x.w.cell? ⟨w.heap.size, 1, none⟩ = some (.int .i64 g) := fun x => (gC.out _ x.is).2.1
  have gC2 : ∀ x : Cls I, x.w.cell? ⟨w.heap.size, 2, none⟩ = some (.int .i64 u) := fun x => (gC.out _ x.is).2.2.1
  have gC3 : ∀ x : Cls I, x.w.cell? ⟨w.heap.size, 3, none⟩ = some (.int .i64 t) := fun x => (gC.out _ x.is).2.2.2
  have k1 : ∀ x : Cls I, ∀ b, logB ss = b → Calls Try.prog 18 #[.agg #[.slice oa n cap]] x.w fun e w'' => e = .returned (.bool b) ∧ ∃ y : Cls I, w'' = y.w :=
    fun x b hb => hb ▸ class_of step.out (rlog_any _ _ _ ss _ (gR.out _ x.is) hn)
  have k2 : ∀ x : Cls I, Calls Try.prog 24 #[.agg #[.slice oa n cap]] x.w fun e w'' => e = .returned (.int .i64 (roomZ ss)) ∧ ∃ y : Cls I, w'' = y.w :=
    fun x => class_of step.out (rarea_any _ _ _ ss _ hl hn)
  have K1 := Lib.hid k1
  have K2 := Lib.hid k2
  have E := Lib.hid (sto_parts ss g u t)
  clear k1 k2 hl
  generalize roomZ ss = r at *
  generalize stoB ss g u t = sb at *
  have hId := step.out.drew hI
  haveI : Nonempty (Cls I) := ⟨⟨_, hId⟩⟩
  cases h1 : logB ss
  · have H1 := Lib.hid h1
    clear h1
    go_enter Try.func14, Try.ntmps14
    go_wp2_with fail
    generalize w.alloc (.cells #[.slice oa n cap, .int .i64 g, .int .i64 u, .int .i64 t, .bool d] 26) = W at *
    refine wp_region_class I (by kernel_rfl) (by kernel_rfl) hId ?_
    repeat (go_big_quiet_step (first | exact K1.out _ _ H1.out | exact K2.out _))
    refine wpQuiet_nil ?_
    rintro _ ⟨x, rfl⟩
    go_wp2
    go_ret
    exact ⟨ret_bool (by rw [E.out, H1.out]; simp []), gB.out _ x.is⟩
  have H1 := Lib.hid h1
  clear h1
  by_cases a0 : 1 ≤ g
  rotate_left
  · have b0 : decide (1 ≤ g) = false := decide_eq_false a0
    go_enter Try.func14, Try.ntmps14
    go_wp2_with fail
    generalize w.alloc (.cells #[.slice oa n cap, .int .i64 g, .int .i64 u, .int .i64 t, .bool d] 26) = W at *
    refine wp_region_class I (by kernel_rfl) (by kernel_rfl) hId ?_
    repeat (go_big_quiet_step (first | exact K1.out _ _ H1.out | exact K2.out _))
    refine wpQuiet_nil ?_
    rintro _ ⟨x, rfl⟩
    go_wp2
    go_ret
    exact ⟨ret_bool (by rw [E.out, H1.out, b0]; simp), gB.out _ x.is⟩
  by_cases a1 : g ≤ 250
  rotate_left
  · have b1 : decide (g ≤ 250) = false := decide_eq_false a1
    go_enter Try.func14, Try.ntmps14
    go_wp2_with fail
    generalize w.alloc (.cells #[.slice oa n cap, .int .i64 g, .int .i64 u, .int .i64 t, .bool d] 26) = W at *
    refine wp_region_class I (by kernel_rfl) (by kernel_rfl) hId ?_
    repeat (go_big_quiet_step (first | exact K1.out _ _ H1.out | exact K2.out _))
    refine wpQuiet_nil ?_
    rintro _ ⟨x, rfl⟩
    go_wp2
    go_ret
    exact ⟨ret_bool (by rw [E.out, H1.out, b1]; simp), gB.out _ x.is⟩
  by_cases a2 : 0 ≤ u
  rotate_left
  · have b2 : decide (0 ≤ u) = false := decide_eq_false a2
    go_enter Try.func14, Try.ntmps14
    go_wp2_with fail
    generalize w.alloc (.cells #[.slice oa n cap, .int .i64 g, .int .i64 u, .int .i64 t, .bool d] 26) = W at *
    refine wp_region_class I (by kernel_rfl) (by kernel_rfl) hId ?_
    repeat (go_big_quiet_step (first | exact K1.out _ _ H1.out | exact K2.out _))
    refine wpQuiet_nil ?_
    rintro _ ⟨x, rfl⟩
    go_wp2
    go_ret
    exact ⟨ret_bool (by rw [E.out, H1.out, b2]; simp), gB.out _ x.is⟩
  by_cases a3 : u ≤ r
  rotate_left
  · have b3 : decide (u ≤ r) = false := decide_eq_false a3
    go_enter Try.func14, Try.ntmps14
    go_wp2_with fail
    generalize w.alloc (.cells #[.slice oa n cap, .int .i64 g, .int .i64 u, .int .i64 t, .bool d] 26) = W at *
    refine wp_region_class I (by kernel_rfl) (by kernel_rfl) hId ?_
    repeat (go_big_quiet_step (first | exact K1.out _ _ H1.out | exact K2.out _))
    refine wpQuiet_nil ?_
    rintro _ ⟨x, rfl⟩
    go_wp2
    go_ret
    exact ⟨ret_bool (by rw [E.out, H1.out, b3]; simp), gB.out _ x.is⟩
  by_cases a4 : g ≤ t
  rotate_left
  · have b4 : decide (g ≤ t) = false := decide_eq_false a4
    go_enter Try.func14, Try.ntmps14
    go_wp2_with fail
    generalize w.alloc (.cells #[.slice oa n cap, .int .i64 g, .int .i64 u, .int .i64 t, .bool d] 26) = W at *
    refine wp_region_class I (by kernel_rfl) (by kernel_rfl) hId ?_
    repeat (go_big_quiet_step (first | exact K1.out _ _ H1.out | exact K2.out _))
    refine wpQuiet_nil ?_
    rintro _ ⟨x, rfl⟩
    go_wp2
    go_ret
    exact ⟨ret_bool (by rw [E.out, H1.out, b4]; simp), gB.out _ x.is⟩
  by_cases a5 : t ≤ 250
  rotate_left
  · have b5 : decide (t ≤ 250) = false := decide_eq_false a5
    go_enter Try.func14, Try.ntmps14
    go_wp2_with fail
    generalize w.alloc (.cells #[.slice oa n cap, .int .i64 g, .int .i64 u, .int .i64 t, .bool d] 26) = W at *
    refine wp_region_class I (by kernel_rfl) (by kernel_rfl) hId ?_
    repeat (go_big_quiet_step (first | exact K1.out _ _ H1.out | exact K2.out _))
    refine wpQuiet_nil ?_
    rintro _ ⟨x, rfl⟩
    go_wp2
    go_ret
    exact ⟨ret_bool (by rw [E.out, H1.out, b5]; simp), gB.out _ x.is⟩
  go_enter Try.func14, Try.ntmps14
  go_wp2_with fail
  generalize w.alloc (.cells #[.slice oa n cap, .int .i64 g, .int .i64 u, .int .i64 t, .bool d] 26) = W at *
  refine wp_region_class I (by kernel_rfl) (by kernel_rfl) hId ?_
  repeat (go_big_quiet_step (first | exact K1.out _ _ H1.out | exact K2.out _))
  refine wpQuiet_nil ?_
  rintro _ ⟨x, rfl⟩
  go_wp2
  go_ret
  exact ⟨ret_bool (by rw [E.out, H1.out]; simp [a0, a1, a2, a3, a4, a5]), gB.out _ x.is⟩
end Go.Proofs.Ytmjbhmmcpjhmcaa
namespace Go.Proofs.Ytmjbhmmcpjhmcaa
open Go.RowKit
set_option linter.unusedVariables false
attribute [local go_sem ↓] Go.wp_at_zero Go.wp_at_succ

/-- the payload that is opened, or none -/
def isP (t : ByteArray) : ByteArray := if openE t = 0 then pOf t else ⟨#[]⟩
theorem isP_yes {t : ByteArray} (h : openE t = 0) : isP t = pOf t := by unfold isP; rw [if_pos h]
theorem isP_no {t : ByteArray} (h : ¬ openE t = 0) : isP t = ⟨#[]⟩ := by unfold isP; rw [if_neg h]
theorem isRec_no0 {t : ByteArray} (g : Int) (i : Nat) (h : ¬ openE t = 0) : isRecB t g i = false := by unfold isRecB; rw [decide_eq_false h]; rfl
theorem isRec_no1 {t : ByteArray} {g : Int} (i : Nat) (h : ¬ gOf t = g) : isRecB t g i = false := by unfold isRecB; rw [decide_eq_false h]; simp
theorem isRec_no2 {t : ByteArray} (g : Int) {i : Nat} (h : ¬ nOf t = (i : Int) + 1) : isRecB t g i = false := by unfold isRecB; rw [decide_eq_false h]; simp
theorem ret_is {p q : ByteArray} {a b : Bool} (h : p = q) (h2 : a = b) : Ending.returned (.tuple #[.string p, .bool a]) = .returned (.tuple #[.string q, .bool b]) := by rw [h, h2]
set_option maxRecDepth 100000 in
set_option maxHeartbeats 1600000 in
theorem ris_any (oa : Option Addr) (n cap : Nat) (ss : List ByteArray) (a : Nat) (g : Int) (i : Nat) (w : World) (hR : Rd w oa n cap ss) (hn : n ≤ 1000) (ha : a < n) (hs : (secA ss a).size ≤ maxLen) :
    Calls Try.prog 47 #[.agg #[.slice oa n cap], .int .i64 (a : Int), .int .i64 g, .int .i64 ((i : Int) + 1)] w fun e w' => e = .returned (.tuple #[.string (isP (secA ss a)), .bool (isRecB (secA ss a) g i)]) ∧ Below w.heap.size w w' := by
  have hB0 := below_alloc w (.cells #[.slice oa n cap] 24)
  obtain ⟨b, rfl, hc⟩ := hR.cell a ha
  have hc1 : (w.alloc (.cells #[.slice (some ⟨b, 0, none⟩) n cap] 24)).cell? ⟨b, a, none⟩ = some (.string (secA ss a)) := keepC hB0 hc
  clear hc hR
  obtain ⟨T, hT⟩ : ∃ T, secA ss a = T := ⟨_, rfl⟩
  rw [hT] at hc1 hs ⊢
  clear hT
  have hj : (a : Int) < (n : Int) := by omega
  have hj0 : (0 : Int) ≤ (a : Int) := by omega
  have HO := Lib.hid (fun wx => rOpen_any T wx hs)
  clear hs
  by_cases h0 : openE T = 0
  · have V := Lib.hid (openV_yes h0)
    have P0 := Lib.hid (isP_yes h0)
    by_cases h1 : gOf T = g
    · by_cases h2 : nOf T = (i : Int) + 1
      · have E : Hid (isRecB T g i = true) := (isRec_iff T g i).2 ⟨h0, h1, h2⟩
        have H1 := Lib.hid h1
        have H2 := Lib.hid h2
        clear h0 h1 h2
        go_enter Try.func47, Try.ntmps47
        go_wp2_with fail
        refine (HO.out _).mono ?_
        rintro e w1 ⟨rfl, hB1⟩
        rw [V.out, H1.out, H2.out]
        go_wp2
        go_ret2
        exact ⟨ret_is P0.out.symm E.out.symm, hB0.trans (hB1.mono hB0.size)⟩
      · have E := Lib.hid (isRec_no2 g h2)
        have b2 : (nOf T == (i : Int) + 1) = false := by rw [beq_eq_false_iff_ne]; exact h2
        have H1 := Lib.hid h1
        clear h0 h1 h2
        go_enter Try.func47, Try.ntmps47
        go_wp2_with fail
        refine (HO.out _).mono ?_
        rintro e w1 ⟨rfl, hB1⟩
        rw [V.out, H1.out]
        generalize nOf T = no at *
        go_wp2
        go_ret2
        exact ⟨ret_is P0.out.symm E.out.symm, hB0.trans (hB1.mono hB0.size)⟩
    · have E := Lib.hid (isRec_no1 i h1)
      have b1 : (gOf T == g) = false := by rw [beq_eq_false_iff_ne]; exact h1
      clear h0 h1
      go_enter Try.func47, Try.ntmps47
      go_wp2_with fail
      refine (HO.out _).mono ?_
      rintro e w1 ⟨rfl, hB1⟩
      rw [V.out]
      generalize gOf T = gt at *
      go_wp2
      go_ret2
      exact ⟨ret_is P0.out.symm E.out.symm, hB0.trans (hB1.mono hB0.size)⟩
  · have V := Lib.hid (openV_no rfl h0)
    have P0 := Lib.hid (isP_no h0)
    have E := Lib.hid (isRec_no0 g i h0)
    have b0 : (openE T == 0) = false := by rw [beq_eq_false_iff_ne]; exact h0
    clear h0
    go_enter Try.func47, Try.ntmps47
    go_wp2_with fail
    refine (HO.out _).mono ?_
    rintro e w1 ⟨rfl, hB1⟩
    rw [V.out]
    generalize openE T = er at *
    go_wp2
    go_ret2
    exact ⟨ret_is P0.out.symm E.out.symm, hB0.trans (hB1.mono hB0.size)⟩
/-- the greater generation of the first headers -/
def newK (ss : List ByteArray) : Nat → Int
  | 0 => 0
  | k + 1 => max (newK ss k) (headZ (secA ss k) k)
theorem newK_two (ss : List ByteArray) : newK ss 2 = newZ ss := by
  have h := headZ_bounds (secA ss 0) 0
  show max (max 0 (headZ (secA ss 0) 0)) (headZ (secA ss 1) 1) = max _ _
  rw [Int.max_eq_right h.1]
theorem newK_pos (ss : List ByteArray) (k : Nat) : 0 ≤ newK ss k ∧ newK ss k ≤ 250 := by
  induction k with
  | zero => exact ⟨Int.le_refl _, by show (0 : Int) ≤ 250; omega⟩
  | succ k ih =>
    have h := headZ_bounds (secA ss k) k
    show 0 ≤ max _ _ ∧ max _ _ ≤ 250
    omega
theorem newK_no {ss : List ByteArray} {k : Nat} (h : headB (secA ss k) k = false) : newK ss (k + 1) = newK ss k := by
  have h1 := newK_pos ss k
  have h2 : headZ (secA ss k) k = 0 := (head_no h).symm
  show max _ _ = _
  rw [h2, Int.max_eq_left h1.1]
theorem newK_yes {ss : List ByteArray} {k : Nat} (h : headB (secA ss k) k = true) : newK ss (k + 1) = max (newK ss k) (gOf (secA ss k)) := by
  show max _ _ = _
  rw [← head_yes h]
theorem headB_no0 {t : ByteArray} (k : Nat) (h : ¬ openE t = 0) : headB t k = false := by unfold headB; rw [decide_eq_false h]; rfl
theorem headB_no1 {t : ByteArray} {k : Nat} (h : ¬ gOf t % 2 = (k : Int)) : headB t k = false := by unfold headB; rw [decide_eq_false h]; simp
theorem headB_no2 {t : ByteArray} (k : Nat) (h : ¬ nOf t = 0) : headB t k = false := by unfold headB; rw [decide_eq_false h]; simp
theorem headB_no3 {t : ByteArray} (k : Nat) (h : ¬ pOf t = ⟨#[]⟩) : headB t k = false := by unfold headB; rw [decide_eq_false h]; simp
set_option maxRecDepth 100000 in
set_option maxHeartbeats 3200000 in
theorem rnewest_any (oa : Option Addr) (n cap : Nat) (ss : List ByteArray) (w : World) (hR : Rd w oa n cap ss) (hL : logB ss = true) :
    Calls Try.prog 46 #[.agg #[.slice oa n cap]] w fun e w' => e = .returned (.int .i64 (newZ ss)) ∧ Below w.heap.size w w' := by
  have hB0 := below_alloc w (.cells #[.slice oa n cap] 24)
  have hr0 : (w.alloc (.cells #[.slice oa n cap] 24)).heap[w.heap.size]? = some (.cells #[.slice oa n cap] 24 (0, 0)) := heap_alloc_new w _
  have hln := hR.len
  have hn : n ≤ 1000 ∧ 10 ≤ n := by have := log_bounds hL; omega
  obtain ⟨hn1, hn2⟩ := hn
  have HL := Lib.hid hL
  have HLN := Lib.hid hln
  clear hL hln
  go_enter Try.func46, Try.ntmps46
  go_wp2_with fail
  go_loopw [3, 4] (fun o i wr => ∃ k : Nat, k ≤ 2 ∧ i = .int .i64 k ∧ o = .int .i64 (newK ss k) ∧ Hid (wr.heap[w.heap.size]? = some (.cells #[.slice oa n cap] 24 (0, 0))) ∧ Below w.heap.size w wr) (fun _ i _ => 2 - (intOf i).toNat)
  case atStart => exact ⟨0, by omega, rfl, rfl, hr0, hB0⟩
  case round =>
    clear hr0 hB0
    obtain ⟨k, hk, rfl, rfl, hr, hB⟩ := hrel
    by_cases h8 : k < 2
    · obtain ⟨b, rfl, hc⟩ := (hR.below hB (Nat.le_refl _)).cell k (by omega)
      have hc1 : wr.cell? ⟨b, k, none⟩ = some (.string (secA ss k)) := hc
      have hv := cell_of_one hr.out
      have hkl : Hid (k < ss.length) := by show _ < _; have := HLN.out; omega
      have hs : (secA ss k).size ≤ maxLen := sec_max HL.out hkl.out
      have HO := Lib.hid (fun wx => rOpen_any (secA ss k) wx hs)
      have hj : (k : Int) < (n : Int) := by omega
      have hj0 : (0 : Int) ≤ (k : Int) := by omega
      have hk2 : (k : Int) < 2 := by omega
      obtain ⟨hp1, hp2⟩ := newK_pos ss k
      obtain ⟨hg1, hg2⟩ := g_bounds (secA ss k)
      have N1 := Lib.hid (newK_no (ss := ss) (k := k))
      have N2 := Lib.hid (newK_yes (ss := ss) (k := k))
      obtain ⟨T, hT⟩ : ∃ T, secA ss k = T := ⟨_, rfl⟩
      rw [hT] at hc1 HO N1 N2 hg1 hg2
      clear hT hc hs hkl
      generalize newK ss k = m at *
      by_cases h0 : openE T = 0
      · have V := Lib.hid (openV_yes h0)
        by_cases h1 : gOf T % 2 = (k : Int)
        · by_cases h2 : nOf T = 0
          · by_cases h3 : pOf T = ⟨#[]⟩
            · have E := N2.out ((head_iff T k).2 ⟨h0, h1, h2, h3⟩)
              have b1 : (gOf T % 2 == (k : Int)) = true := by rw [beq_iff_eq]; exact h1
              have HV : Hid (openV T = .tuple #[.int .i64 (gOf T), .int .i64 0, .string ⟨#[]⟩, .int .i64 0]) := by show _ = _; rw [V.out, h2, h3]
              clear h0 h1 h2 h3 V N1 N2
              by_cases h4 : m < gOf T
              · have E2 : Hid (newK ss (k + 1) = gOf T) := by show _ = _; rw [E]; omega
                clear E
                go_wp2_with fail
                refine (HO.out _).mono ?_
                rintro e w1 ⟨rfl, hB1⟩
                rw [HV.out]
                have hr1 := Lib.hid (keepB hB1 hr.out)
                have hBB := hB.trans (hB1.mono hB.size)
                clear hc1 hv hB hr hB1 HV HO
                generalize gOf T = gt at *
                go_wp2
                go_roundw
                case rel => exact ⟨k + 1, by omega, by go_num, by rw [E2.out], hr1.out, hBB⟩
                case measure => simp [intOf]; omega
              · have E2 : Hid (newK ss (k + 1) = m) := by show _ = _; rw [E]; omega
                clear E
                go_wp2_with fail
                refine (HO.out _).mono ?_
                rintro e w1 ⟨rfl, hB1⟩
                rw [HV.out]
                have hr1 := Lib.hid (keepB hB1 hr.out)
                have hBB := hB.trans (hB1.mono hB.size)
                clear hc1 hv hB hr hB1 HV HO
                generalize gOf T = gt at *
                go_wp2
                go_roundw
                case rel => exact ⟨k + 1, by omega, by go_num, by rw [E2.out], hr1.out, hBB⟩
                case measure => simp [intOf]; omega
            · have E2 := Lib.hid (N1.out (headB_no3 k h3))
              have b1 : (gOf T % 2 == (k : Int)) = true := by rw [beq_iff_eq]; exact h1
              have HV : Hid (openV T = .tuple #[.int .i64 (gOf T), .int .i64 0, .string (pOf T), .int .i64 0]) := by show _ = _; rw [V.out, h2]
              have ln := list_ne h3
              have lb := list_full h3
              clear h0 h1 h2 h3 V N1 N2
              go_wp2_with fail
              refine (HO.out _).mono ?_
              rintro e w1 ⟨rfl, hB1⟩
              rw [HV.out]
              have hr1 := Lib.hid (keepB hB1 hr.out)
              have hBB := hB.trans (hB1.mono hB.size)
              clear hc1 hv hB hr hB1 HV HO
              generalize gOf T = gt at *
              generalize pOf T = pt at *
              go_wp2
              go_roundw
              case rel => exact ⟨k + 1, by omega, by go_num, by rw [E2.out], hr1.out, hBB⟩
              case measure => simp [intOf]; omega
          · have E2 := Lib.hid (N1.out (headB_no2 k h2))
            have b1 : (gOf T % 2 == (k : Int)) = true := by rw [beq_iff_eq]; exact h1
            have b2 : (nOf T == 0) = false := by rw [beq_eq_false_iff_ne]; exact h2
            clear h0 h1 h2 N1 N2
            go_wp2_with fail
            refine (HO.out _).mono ?_
            rintro e w1 ⟨rfl, hB1⟩
            rw [V.out]
            have hr1 := Lib.hid (keepB hB1 hr.out)
            have hBB := hB.trans (hB1.mono hB.size)
            clear hc1 hv hB hr hB1 V HO
            generalize gOf T = gt at *
            generalize pOf T = pt at *
            generalize nOf T = nt at *
            go_wp2
            go_roundw
            case rel => exact ⟨k + 1, by omega, by go_num, by rw [E2.out], hr1.out, hBB⟩
            case measure => simp [intOf]; omega
        · have E2 := Lib.hid (N1.out (headB_no1 h1))
          have b1 : (gOf T % 2 == (k : Int)) = false := by rw [beq_eq_false_iff_ne]; exact h1
          clear h0 h1 N1 N2
          go_wp2_with fail
          refine (HO.out _).mono ?_
          rintro e w1 ⟨rfl, hB1⟩
          rw [V.out]
          have hr1 := Lib.hid (keepB hB1 hr.out)
          have hBB := hB.trans (hB1.mono hB.size)
          clear hc1 hv hB hr hB1 V HO
          generalize gOf T = gt at *
          generalize pOf T = pt at *
          generalize nOf T = nt at *
          go_wp2
          go_roundw
          case rel => exact ⟨k + 1, by omega, by go_num, by rw [E2.out], hr1.out, hBB⟩
          case measure => simp [intOf]; omega
      · have V := Lib.hid (openV_no rfl h0)
        have E2 := Lib.hid (N1.out (headB_no0 k h0))
        have b0 : (openE T == 0) = false := by rw [beq_eq_false_iff_ne]; exact h0
        clear h0 N1 N2
        go_wp2_with fail
        refine (HO.out _).mono ?_
        rintro e w1 ⟨rfl, hB1⟩
        rw [V.out]
        have hr1 := Lib.hid (keepB hB1 hr.out)
        have hBB := hB.trans (hB1.mono hB.size)
        clear hc1 hv hB hr hB1 V HO
        generalize openE T = er at *
        go_wp2
        go_roundw
        case rel => exact ⟨k + 1, by omega, by go_num, by rw [E2.out], hr1.out, hBB⟩
        case measure => simp [intOf]; omega
    · obtain rfl : k = 2 := by omega
      have EZ := Lib.hid (newK_two ss)
      generalize newK ss 2 = z at *
      go_wp2
      go_ret
      exact ⟨ret_int EZ.out, hB⟩
set_option maxRecDepth 100000 in
set_option maxHeartbeats 1600000 in
theorem rnewS_any (n : Int) (w : World) (h : newOk n = true) :
    Calls Try.prog 17 #[.int .i64 n] w fun e w' => TellC e w' ⟨newD n, 1, 0, 1, false⟩ ∧ Below w.heap.size w w' := by
  obtain ⟨h1, h2, h3⟩ := (newOk_iff n).1 h
  obtain ⟨m, rfl⟩ := Int.eq_ofNat_of_zero_le (by omega : 0 ≤ n)
  have hm1 : 10 ≤ m := by omega
  have hm2 : m ≤ 130 := by omega
  obtain ⟨W0, hW0⟩ : ∃ W0, W0 = w.alloc (.cells #[.slice none 0 0, .int .i64 0, .int .i64 0, .int .i64 0, .bool false] 26) := ⟨_, rfl⟩
  have hB0 : Below w.heap.size w W0 := by rw [hW0]; exact below_alloc w _
  have R0 : SRow W0 w.heap.size (.slice none 0 0) 0 0 0 false := by rw [hW0]; exact heap_alloc_new w _
  have HW := Lib.hid hW0
  have HD : Hid (rtearL (List.replicate m (zerosB 128)) 1 (sealS 1 0 ⟨#[]⟩) 128 = newD (m : Int)) := by
    show _ = _
    have G : Good (List.replicate m (zerosB 128)) 1 (sealS 1 0 ⟨#[]⟩) := ⟨?_, by rw [List.length_replicate]; omega, (fits_head (g := 1) (by omega) (by omega)).len⟩
    · rw [G.ref (k := 128) (Nat.le_refl _)]
      exact G.all
    · rw [right_iff]
      refine ⟨by rw [List.length_replicate]; omega, by rw [List.length_replicate]; omega, fun s hs => ?_⟩
      obtain rfl := List.eq_of_mem_replicate hs
      exact zeros_size 128
  clear hW0 h h1 h2 h3
  go_enter Try.func17, Try.ntmps17
  go_wp2_with fail
  rw [← HW.out]
  clear HW
  refine (rnew_any m W0 (by omega)).mono ?_
  rintro e w1 ⟨⟨oa, n1, c1, rfl, hR1⟩, hB1⟩
  have R1 := R0.keep hB1
  have hBB1 := hB0.trans (hB1.mono hB0.size)
  obtain rfl : m = n1 := by have := hR1.len; rw [List.length_replicate] at this; exact this
  clear R0 hB0 hB1
  go_wp2_with fail
  refine (rSeal_any 1 0 ⟨#[]⟩ w1 (by omega) (by omega) (by omega) (by omega) (by decide)).mono ?_
  rintro e w2 ⟨rfl, hB2⟩
  have R2 := R1.keep hB2
  have hR2 := hR1.below hB2 (Nat.le_refl _)
  have hBB2 := hBB1.trans (hB2.mono hBB1.size)
  clear R1 hR1 hBB1 hB2
  have HWR := Lib.hid (show Calls Try.prog 42 #[.agg #[.slice oa m c1], .int .i64 1, .string (sealS 1 0 ⟨#[]⟩)] w2 _ from rwrite_any oa m c1 (List.replicate m (zerosB 128)) 1 (sealS 1 0 ⟨#[]⟩) w2 hR2 (by omega) (by omega) (fits_head (g := 1) (by omega) (by omega)).len (by
    intro i hi
    rw [List.getD_eq_getElem?_getD, List.getElem?_eq_getElem (by rw [List.length_replicate]; omega), List.getElem_replicate]
    exact zeros_size 128))
  rw [HD.out] at HWR
  generalize sealS 1 0 ⟨#[]⟩ = hd at *
  obtain ⟨D, hD⟩ : ∃ D, D = newD (m : Int) := ⟨_, rfl⟩
  rw [← hD] at HWR
  have HDD := Lib.hid hD
  clear hD HD
  go_wp2_with fail
  refine HWR.out.mono ?_
  rintro e w3 ⟨⟨ob, n3, c3, rfl, hR3⟩, hB3⟩
  have R3 := R2.keep hB3
  have hBB3 := hBB2.trans (hB3.mono hBB2.size)
  have R4 := R3.keep (below_alloc w3 (.cells #[.slice ob n3 c3] 24))
  have hR4 := hR3.below (below_alloc w3 (.cells #[.slice ob n3 c3] 24)) (Nat.le_refl _)
  have hBB4 := hBB3.alloc hBB3.size (.cells #[.slice ob n3 c3] 24)
  obtain ⟨p0, p1, p2, p3, p4⟩ := R4.cells
  have pf := R4.free
  clear R2 hR2 hBB2 HWR R3 hR3 hB3 hBB3
  go_wp2_with fail
  refine bodyPost_ret (ret_sto rfl rfl (R4.put (.slice ob n3 c3) 1 0 1 false) rfl) rfl ?_
  exact ⟨⟨ob, n3, c3, rfl, HDD.out ▸ hR4.put R4 ⟨_, _, _, rfl⟩ _ _ _ _ _⟩, put_below hBB4 (Nat.le_refl _) _ _ _ _ _⟩
end Go.Proofs.Ytmjbhmmcpjhmcaa
