/-
  The document's own answers for a log, its small functions: how many records an area has room for, which disks have a log, which stores, faults and payloads may be, where a record lies, which generation is next.
-/
import Derived.Test.YtmjbhmmcpjhmcaaLogX
namespace Go.Proofs.Ytmjbhmmcpjhmcaa
open Go.RowKit
set_option linter.unusedVariables false

theorem rarea_any (oa : Option Addr) (n cap : Nat) (ss : List ByteArray) (w : World) (hl : ss.length = n) (hn : n ≤ 1000) :
    Calls Try.prog 24 #[.agg #[.slice oa n cap]] w fun e w' => e = .returned (.int .i64 (roomZ ss)) ∧ Below w.heap.size w w' := by
  go_enter Try.func24, Try.ntmps24
  go_wp2
  go_ret
  exact ⟨ret_int (by unfold roomZ; rw [hl]), below_alloc w _⟩
set_option maxHeartbeats 800000 in
theorem rlog_any (oa : Option Addr) (n cap : Nat) (ss : List ByteArray) (w : World) (hR : Rd w oa n cap ss) (hn : n ≤ 1000) :
    Calls Try.prog 18 #[.agg #[.slice oa n cap]] w fun e w' => e = .returned (.bool (logB ss)) ∧ Below w.heap.size w w' := by
  have hR1 := hR.below (below_alloc w (.cells #[.slice oa n cap] 24)) (Nat.le_refl _)
  have hlen := Lib.hid hR.len
  go_enter Try.func18, Try.ntmps18
  go_wp2_with fail
  refine (rright_any _ _ _ _ _ hR1 hn).mono ?_
  rintro e w1 ⟨rfl, hB⟩
  have hB0 := (below_alloc w (.cells #[.slice oa n cap] 24)).trans (hB.mono (by simp))
  have hc1 : w1.cell? ⟨w.heap.size, 0, none⟩ = some (.slice oa n cap) := (hB.cell (p := ⟨w.heap.size, 0, none⟩) (by simp)).trans (World.cell?_alloc_at _ _ _ _ rfl)
  clear hR1 hB
  cases hr : rightB ss
  · have HR := Lib.hid hr
    clear hr
    go_wp2
    go_ret
    exact ⟨ret_bool (by unfold logB; rw [HR.out]; rfl), hB0⟩
  have HR := Lib.hid hr
  clear hr
  go_wp2
  go_ret
  exact ⟨ret_bool (by unfold logB; rw [HR.out, hlen.out, Bool.true_and]; rw [Bool.eq_iff_iff]; simp; omega), hB0⟩
set_option maxHeartbeats 800000 in
theorem rplace_any (oa : Option Addr) (n cap : Nat) (ss : List ByteArray) (g i : Int) (w : World) (hl : ss.length = n) (hn : n ≤ 1000) (h0 : 0 ≤ g) (h1 : g ≤ 1000) (h2 : 0 ≤ i) (h3 : i ≤ 1000) :
    Calls Try.prog 48 #[.agg #[.slice oa n cap], .int .i64 g, .int .i64 i] w fun e w' => e = .returned (.int .i64 (recZ ss g i)) ∧ Below w.heap.size w w' := by
  have hc : (w.alloc (.cells #[.slice oa n cap] 24)).cell? ⟨w.heap.size, 0, none⟩ = some (.slice oa n cap) := World.cell?_alloc_at _ _ _ _ rfl
  have hB0 := below_alloc w (.cells #[.slice oa n cap] 24)
  have hr1 : -1 ≤ roomZ ss := by unfold roomZ; omega
  have hr2 : roomZ ss ≤ 1000 := by unfold roomZ; omega
  by_cases hz : g % 2 = 0
  · have HZ : Hid (2 + i = recZ ss g i) := by show _ = _; unfold recZ; rw [hz]; omega
    have hz2 : (g % 2 == 0) = true := by rw [beq_iff_eq]; exact hz
    clear hz
    go_enter Try.func48, Try.ntmps48
    go_wp2
    go_ret
    exact ⟨ret_int HZ.out, hB0⟩
  · have HZ : Hid (2 + roomZ ss + i = recZ ss g i) := by show _ = _; unfold recZ; rw [show g % 2 = 1 by omega]; omega
    have hz2 : (g % 2 == 0) = false := by rw [beq_eq_false_iff_ne]; exact hz
    clear hz
    go_enter Try.func48, Try.ntmps48
    go_wp2_with fail
    refine (rarea_any _ _ _ ss _ hl hn).mono ?_
    rintro e w1 ⟨rfl, hB⟩
    generalize roomZ ss = r at *
    go_wp2
    go_ret
    exact ⟨ret_int HZ.out, hB0.trans (hB.mono hB0.size)⟩
/-- what is asked of a fault -/
theorem rfault_any (f : Int × Int) (w : World) :
    Calls Try.prog 23 #[.agg #[.int .i64 f.1, .int .i64 f.2]] w fun e w' => e = .returned (.bool (faultB f)) ∧ Below w.heap.size w w' := by
  have hB0 := below_alloc w (.cells #[.int .i64 f.1, .int .i64 f.2] 44)
  have E : Hid (faultB f = (decide (0 ≤ f.1) && decide (f.1 ≤ 2) && (decide (0 ≤ f.2) && decide (f.2 ≤ 128)))) := rfl
  generalize faultB f = b at *
  generalize f.1 = x at *
  generalize f.2 = y at *
  by_cases h1 : 0 ≤ x
  · by_cases h2 : x ≤ 2
    · by_cases h3 : 0 ≤ y
      · by_cases h4 : y ≤ 128
        · go_enter Try.func23, Try.ntmps23
          go_wp2
          go_ret
          exact ⟨ret_bool (by rw [E.out]; simp [h1, h2, h3, h4]), hB0⟩
        · go_enter Try.func23, Try.ntmps23
          go_wp2
          go_ret
          exact ⟨ret_bool (by rw [E.out]; simp [h1, h2, h3, h4]), hB0⟩
      · have B := Lib.hid (decide_eq_false h3)
        go_enter Try.func23, Try.ntmps23
        go_wp2
        go_ret
        exact ⟨ret_bool (by rw [E.out, B.out]; simp), hB0⟩
    · have B := Lib.hid (decide_eq_false h2)
      go_enter Try.func23, Try.ntmps23
      go_wp2
      go_ret
      exact ⟨ret_bool (by rw [E.out, B.out]; simp), hB0⟩
  · have B := Lib.hid (decide_eq_false h1)
    go_enter Try.func23, Try.ntmps23
    go_wp2
    go_ret
    exact ⟨ret_bool (by rw [E.out, B.out]; simp), hB0⟩
set_option maxHeartbeats 800000 in
theorem rnext_any (x : Value) (g u t : Int) (d : Bool) (w : World) (hx : x.oneCell' = true) (h0 : 0 ≤ g) (h1 : g ≤ 1000) (h2 : 0 ≤ t) (h3 : t ≤ 900) :
    Calls Try.prog 28 #[.agg #[x, .int .i64 g, .int .i64 u, .int .i64 t, .bool d]] w fun e w' => e = .returned (.int .i64 (nextZ g t)) ∧ Below w.heap.size w w' := by
  have hB0 := below_alloc w (.cells #[x, .int .i64 g, .int .i64 u, .int .i64 t, .bool d] 26)
  by_cases hz : (t + 1) % 2 = g % 2
  · have HZ : Hid (nextZ g t = t + 2) := by show _ = _; unfold nextZ; rw [if_pos hz]
    have hz' : ((t + 1) % 2 == g % 2) = true := by rw [beq_iff_eq]; exact hz
    clear hz
    go_enter Try.func28, Try.ntmps28
    go_wp2
    go_ret
    exact ⟨ret_int HZ.out.symm, hB0⟩
  · have HZ := Lib.hid (next_no hz)
    have hz' : ((t + 1) % 2 == g % 2) = false := by rw [beq_eq_false_iff_ne]; exact hz
    clear hz
    go_enter Try.func28, Try.ntmps28
    go_wp2
    go_ret
    exact ⟨ret_int HZ.out.symm, hB0⟩
set_option maxHeartbeats 1600000 in
theorem rpays_any (oa : Option Addr) (n cap : Nat) (l : List ByteArray) (w : World) (hA : ARd w oa n cap l) (hn : n ≤ 1000) :
    Calls Try.prog 27 #[.slice oa n cap] w fun e w' => e = .returned (.bool (!l.any longB)) ∧ w = w' := by
  have hlen := Lib.hid hA.len
  go_enter Try.func27, Try.ntmps27
  go_wp2_with fail
  go_loop [7] (fun i => ∃ k : Nat, k ≤ n ∧ i = .int .i64 k ∧ Hid ((l.take k).any longB = false)) (fun i => n - (intOf i).toNat)
  case atStart => exact ⟨0, Nat.zero_le _, rfl, rfl⟩
  case round =>
    obtain ⟨k, hk, rfl, hno⟩ := hrel
    by_cases h8 : k < n
    · obtain ⟨b, off, rfl, hc⟩ := hA.cell k h8
      have hsz := hA.each k h8
      unfold maxLen at hsz
      have HT : Hid (l.take (k + 1) = l.take k ++ [l.getD k ByteArray.empty]) := by
        show _ = _
        rw [List.take_succ_eq_append_getElem (by rw [hlen.out]; exact h8), List.getD_eq_getElem?_getD, List.getElem?_eq_getElem (by rw [hlen.out]; exact h8)]
        rfl
      have HM := Lib.hid (show l.getD k ByteArray.empty ∈ l by
        rw [List.getD_eq_getElem?_getD, List.getElem?_eq_getElem (by rw [hlen.out]; exact h8)]
        exact List.getElem_mem _)
      have hkn : (k : Int) < (n : Int) := by omega
      generalize l.getD k ByteArray.empty = x at *
      by_cases hx : 96 < x.size
      · have hx2 : (96 : Int) < (x.size : Int) := by omega
        go_wp2
        go_ret
        exact ⟨ret_bool (by rw [eq_comm, Bool.not_eq_false', List.any_eq_true]; exact ⟨x, HM.out, long_yes hx⟩), rfl⟩
      · have hx2 : ¬ (96 : Int) < (x.size : Int) := by omega
        go_wp2
        go_round
        case rel => exact ⟨k + 1, by omega, by go_num, by show _ = _; rw [HT.out, List.any_append, hno.out]; simp [long_no hx]⟩
        case measure => simp [intOf]; omega
    · obtain rfl : k = n := by omega
      have hno' := hno.out
      rw [List.take_of_length_le (by rw [hlen.out]; exact Nat.le_refl _)] at hno'
      have HN := Lib.hid hno'
      clear hno'
      go_wp2
      go_ret
      exact ⟨ret_bool (by rw [HN.out]; rfl), rfl⟩
set_option maxHeartbeats 1600000 in
theorem rfaults_any (oa : Option Addr) (n cap : Nat) (fs : List (Int × Int)) (w : World) (hR : FRd w oa n cap fs) (hn : n ≤ 1000) :
    Calls Try.prog 26 #[.slice oa n cap] w fun e w' => e = .returned (.bool (!(fs.any fun f => !faultB f))) ∧ Below w.heap.size w w' := by
  have hlen := Lib.hid hR.len
  go_enter Try.func26, Try.ntmps26
  go_wp2_with fail
  go_loopw [7] (fun i wr => ∃ k : Nat, k ≤ n ∧ i = .int .i64 k ∧ Hid (((fs.take k).any fun f => !faultB f) = false) ∧ Below w.heap.size w wr) (fun i _ => n - (intOf i).toNat)
  case atStart => exact ⟨0, Nat.zero_le _, rfl, rfl, Below.refl _ _⟩
  case round =>
    obtain ⟨k, hk, rfl, hno, hB⟩ := hrel
    by_cases h8 : k < n
    · obtain ⟨g, o, rfl, c1, c2⟩ := (hR.below hB (Nat.le_refl _)).cell k h8
      have hkl : k < fs.length := by rw [hlen.out]; exact h8
      have HT : Hid (fs.take (k + 1) = fs.take k ++ [fs.getD k (0, 0)]) := by
        show _ = _
        rw [List.take_succ_eq_append_getElem hkl, List.getD_eq_getElem?_getD, List.getElem?_eq_getElem hkl]
        rfl
      have HM := Lib.hid (show fs.getD k (0, 0) ∈ fs by
        rw [List.getD_eq_getElem?_getD, List.getElem?_eq_getElem hkl]
        exact List.getElem_mem _)
      have HC := Lib.hid (fun wx => rfault_any (fs.getD k (0, 0)) wx)
      have hBB := hB.alloc hB.size (.cells #[.int .i64 (fs.getD k (0, 0)).1, .int .i64 (fs.getD k (0, 0)).2] 44)
      generalize fs.getD k (0, 0) = f at *
      have hj : (k : Int) < (n : Int) := by omega
      have hj0 : (0 : Int) ≤ (k : Int) := by omega
      clear hkl
      cases hf : faultB f
      · have HF := Lib.hid hf
        clear hf
        go_wp2_with fail
        refine (HC.out _).mono ?_
        rintro e w1 ⟨rfl, hB1⟩
        rw [HF.out]
        go_wp2
        go_ret
        exact ⟨ret_bool (by rw [eq_comm, Bool.not_eq_false', List.any_eq_true]; exact ⟨f, HM.out, by rw [HF.out]; rfl⟩), hBB.trans (hB1.mono hBB.size)⟩
      · have HF := Lib.hid hf
        clear hf
        go_wp2_with fail
        refine (HC.out _).mono ?_
        rintro e w1 ⟨rfl, hB1⟩
        rw [HF.out]
        have hBC := hBB.trans (hB1.mono hBB.size)
        go_wp2
        go_roundw
        case rel => exact ⟨k + 1, by omega, by go_num, by show _ = _; rw [HT.out, List.any_append, hno.out]; simp [HF.out], hBC⟩
        case measure => simp [intOf]; omega
    · obtain rfl : k = n := by omega
      have hno' := hno.out
      rw [List.take_of_length_le (by rw [hlen.out]; exact Nat.le_refl _)] at hno'
      have HN := Lib.hid hno'
      clear hno'
      go_wp2
      go_ret
      exact ⟨ret_bool (by rw [HN.out]; rfl), hB⟩
/-- which stores may be -/
theorem sto_parts (ss : List ByteArray) (g u t : Int) : stoB ss g u t = (logB ss && (decide (1 ≤ g) && decide (g ≤ 250)) && (decide (0 ≤ u) && decide (u ≤ roomZ ss)) && (decide (g ≤ t) && decide (t ≤ 250))) := rfl
set_option maxHeartbeats 3200000 in
theorem rright4_any (oa : Option Addr) (n cap : Nat) (ss : List ByteArray) (g u t : Int) (d : Bool) (w : World) (hR : Rd w oa n cap ss) (hn : n ≤ 1000) :
    Calls Try.prog 14 #[.agg #[.slice oa n cap, .int .i64 g, .int .i64 u, .int .i64 t, .bool d]] w fun e w' => e = .returned (.bool (stoB ss g u t)) ∧ Below w.heap.size w w' := by
  have hB0 := below_alloc w (.cells #[.slice oa n cap, .int .i64 g, .int .i64 u, .int .i64 t, .bool d] 26)
  obtain ⟨I, hID⟩ : ∃ I : World → Prop, I = fun wx => Rd wx oa n cap ss ∧ Below w.heap.size w wx ∧ wx.cell? ⟨w.heap.size, 0, none⟩ = some (.slice oa n cap) ∧ wx.cell? ⟨w.heap.size, 1, none⟩ = some (.int .i64 g) ∧ wx.cell? ⟨w.heap.size, 2, none⟩ = some (.int .i64 u) ∧ wx.cell? ⟨w.heap.size, 3, none⟩ = some (.int .i64 t) := ⟨_, rfl⟩
  have hI : I (w.alloc (.cells #[.slice oa n cap, .int .i64 g, .int .i64 u, .int .i64 t, .bool d] 26)) := by
    rw [hID]
    exact ⟨hR.below hB0 (Nat.le_refl _), hB0, World.cell?_alloc_at _ _ _ _ rfl, World.cell?_alloc_at _ _ _ _ rfl, World.cell?_alloc_at _ _ _ _ rfl, World.cell?_alloc_at _ _ _ _ rfl⟩
  have step : Hid (Stable I) := by
    rw [hID]
    exact (Stable.rd _ _ _ _).and ((Stable.below _).and ((Stable.cell _ _).and ((Stable.cell _ _).and ((Stable.cell _ _).and (Stable.cell _ _)))))
  have gR : Hid (∀ wx, I wx → Rd wx oa n cap ss) := by intro wx h; rw [hID] at h; exact h.1
  have gB : Hid (∀ wx, I wx → Below w.heap.size w wx) := by intro wx h; rw [hID] at h; exact h.2.1
  have gC : Hid (∀ wx, I wx → wx.cell? ⟨w.heap.size, 0, none⟩ = some (.slice oa n cap) ∧ wx.cell? ⟨w.heap.size, 1, none⟩ = some (.int .i64 g) ∧ wx.cell? ⟨w.heap.size, 2, none⟩ = some (.int .i64 u) ∧ wx.cell? ⟨w.heap.size, 3, none⟩ = some (.int .i64 t)) := by intro wx h; rw [hID] at h; exact h.2.2
  have hl := hR.len
  clear hID hB0 hR
  have gC0 : ∀ x : Cls I, x.w.cell? ⟨w.heap.size, 0, none⟩ = some (.slice oa n cap) := fun x => (gC.out _ x.is).1
  have gC1 : ∀ x : Cls I, x.w.cell? ⟨w.heap.size, 1, none⟩ = some (.int .i64 g) := fun x => (gC.out _ x.is).2.1
  have gC2 : ∀ x : Cls I, x.w.cell? ⟨w.heap.size, 2, none⟩ = some (.int .i64 u) := fun x => (gC.out _ x.is).2.2.1
  have gC3 : ∀ x : Cls I, x.w.cell? ⟨w.heap.size, 3, none⟩ = some (.int .i64 t) := fun x => (gC.out _ x.is).2.2.2
  have k1 : ∀ x : Cls I, ∀ b, logB ss = b → Calls Try.prog 18 #[.agg #[.slice oa n cap]] x.w fun e w'' => e = .returned (.bool b) ∧ ∃ y : Cls I, w'' = y.w :=
    fun x b hb => hb ▸ class_of step.out (rlog_any _ _ _ ss _ (gR.out _ x.is) hn)
  have k2 : ∀ x : Cls I, Calls Try.prog 24 #[.agg #[.slice oa n cap]] x.w fun e w'' => e = .returned (.int .i64 (roomZ ss)) ∧ ∃ y : Cls I, w'' = y.w :=
    fun x => class_of step.out (rarea_any _ _ _ ss _ hl hn)
  have K1 := Lib.hid k1
  have K2 := Lib.hid k2
  have E := Lib.hid (sto_parts ss g u t)
  clear k1 k2 hl
  generalize roomZ ss = r at *
  generalize stoB ss g u t = sb at *
  have hId := step.out.drew hI
  haveI : Nonempty (Cls I) := ⟨⟨_, hId⟩⟩
  cases h1 : logB ss
  · have H1 := Lib.hid h1
    clear h1
    go_enter Try.func14, Try.ntmps14
    go_wp2_with fail
    generalize w.alloc (.cells #[.slice oa n cap, .int .i64 g, .int .i64 u, .int .i64 t, .bool d] 26) = W at *
    refine wp_region_class I (by kernel_rfl) (by kernel_rfl) hId ?_
    repeat (go_big_quiet_step (first | exact K1.out _ _ H1.out | exact K2.out _))
    refine wpQuiet_nil ?_
    rintro _ ⟨x, rfl⟩
    go_wp2
    go_ret
    exact ⟨ret_bool (by rw [E.out, H1.out]; simp []), gB.out _ x.is⟩
  have H1 := Lib.hid h1
  clear h1
  by_cases a0 : 1 ≤ g
  rotate_left
  · have b0 : decide (1 ≤ g) = false := decide_eq_false a0
    go_enter Try.func14, Try.ntmps14
    go_wp2_with fail
    generalize w.alloc (.cells #[.slice oa n cap, .int .i64 g, .int .i64 u, .int .i64 t, .bool d] 26) = W at *
    refine wp_region_class I (by kernel_rfl) (by kernel_rfl) hId ?_
    repeat (go_big_quiet_step (first | exact K1.out _ _ H1.out | exact K2.out _))
    refine wpQuiet_nil ?_
    rintro _ ⟨x, rfl⟩
    go_wp2
    go_ret
    exact ⟨ret_bool (by rw [E.out, H1.out, b0]; simp), gB.out _ x.is⟩
  by_cases a1 : g ≤ 250
  rotate_left
  · have b1 : decide (g ≤ 250) = false := decide_eq_false a1
    go_enter Try.func14, Try.ntmps14
    go_wp2_with fail
    generalize w.alloc (.cells #[.slice oa n cap, .int .i64 g, .int .i64 u, .int .i64 t, .bool d] 26) = W at *
    refine wp_region_class I (by kernel_rfl) (by kernel_rfl) hId ?_
    repeat (go_big_quiet_step (first | exact K1.out _ _ H1.out | exact K2.out _))
    refine wpQuiet_nil ?_
    rintro _ ⟨x, rfl⟩
    go_wp2
    go_ret
    exact ⟨ret_bool (by rw [E.out, H1.out, b1]; simp), gB.out _ x.is⟩
  by_cases a2 : 0 ≤ u
  rotate_left
  · have b2 : decide (0 ≤ u) = false := decide_eq_false a2
    go_enter Try.func14, Try.ntmps14
    go_wp2_with fail
    generalize w.alloc (.cells #[.slice oa n cap, .int .i64 g, .int .i64 u, .int .i64 t, .bool d] 26) = W at *
    refine wp_region_class I (by kernel_rfl) (by kernel_rfl) hId ?_
    repeat (go_big_quiet_step (first | exact K1.out _ _ H1.out | exact K2.out _))
    refine wpQuiet_nil ?_
    rintro _ ⟨x, rfl⟩
    go_wp2
    go_ret
    exact ⟨ret_bool (by rw [E.out, H1.out, b2]; simp), gB.out _ x.is⟩
  by_cases a3 : u ≤ r
  rotate_left
  · have b3 : decide (u ≤ r) = false := decide_eq_false a3
    go_enter Try.func14, Try.ntmps14
    go_wp2_with fail
    generalize w.alloc (.cells #[.slice oa n cap, .int .i64 g, .int .i64 u, .int .i64 t, .bool d] 26) = W at *
    refine wp_region_class I (by kernel_rfl) (by kernel_rfl) hId ?_
    repeat (go_big_quiet_step (first | exact K1.out _ _ H1.out | exact K2.out _))
    refine wpQuiet_nil ?_
    rintro _ ⟨x, rfl⟩
    go_wp2
    go_ret
    exact ⟨ret_bool (by rw [E.out, H1.out, b3]; simp), gB.out _ x.is⟩
  by_cases a4 : g ≤ t
  rotate_left
  · have b4 : decide (g ≤ t) = false := decide_eq_false a4
    go_enter Try.func14, Try.ntmps14
    go_wp2_with fail
    generalize w.alloc (.cells #[.slice oa n cap, .int .i64 g, .int .i64 u, .int .i64 t, .bool d] 26) = W at *
    refine wp_region_class I (by kernel_rfl) (by kernel_rfl) hId ?_
    repeat (go_big_quiet_step (first | exact K1.out _ _ H1.out | exact K2.out _))
    refine wpQuiet_nil ?_
    rintro _ ⟨x, rfl⟩
    go_wp2
    go_ret
    exact ⟨ret_bool (by rw [E.out, H1.out, b4]; simp), gB.out _ x.is⟩
  by_cases a5 : t ≤ 250
  rotate_left
  · have b5 : decide (t ≤ 250) = false := decide_eq_false a5
    go_enter Try.func14, Try.ntmps14
    go_wp2_with fail
    generalize w.alloc (.cells #[.slice oa n cap, .int .i64 g, .int .i64 u, .int .i64 t, .bool d] 26) = W at *
    refine wp_region_class I (by kernel_rfl) (by kernel_rfl) hId ?_
    repeat (go_big_quiet_step (first | exact K1.out _ _ H1.out | exact K2.out _))
    refine wpQuiet_nil ?_
    rintro _ ⟨x, rfl⟩
    go_wp2
    go_ret
    exact ⟨ret_bool (by rw [E.out, H1.out, b5]; simp), gB.out _ x.is⟩
  go_enter Try.func14, Try.ntmps14
  go_wp2_with fail
  generalize w.alloc (.cells #[.slice oa n cap, .int .i64 g, .int .i64 u, .int .i64 t, .bool d] 26) = W at *
  refine wp_region_class I (by kernel_rfl) (by kernel_rfl) hId ?_
  repeat (go_big_quiet_step (first | exact K1.out _ _ H1.out | exact K2.out _))
  refine wpQuiet_nil ?_
  rintro _ ⟨x, rfl⟩
  go_wp2
  go_ret
  exact ⟨ret_bool (by rw [E.out, H1.out]; simp [a0, a1, a2, a3, a4, a5]), gB.out _ x.is⟩
end Go.Proofs.Ytmjbhmmcpjhmcaa
