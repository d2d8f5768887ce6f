/-
  The program's own: which record may be, and its bytes.
-/
import Derived.Test.YtopjiokbmpghjaaCodD
import Derived.Test.YtopjiokbmpghjaaCodE
import Derived.Test.YtopjiokbmpghjaaRcdH
namespace Go.Proofs.Ytopjiokbmpghjaa
open Go.RowKit Go.Shelf
set_option linter.unusedVariables false
set_option linter.unusedSimpArgs false

theorem recR_one (r : Rc) (h : r.k = 1) (n2 n3 : Nat) (h2 : r.l.length = n2) (h3 : r.a.length = n3) : recR r = (dutyB r.d && (decide (n2 = 0) && (decide (r.f = 0) && (decide (r.t = 0) && decide (n3 = 0))))) := by
  unfold recR noHushB
  rw [if_pos h, ← h2, ← h3]
  simp only [List.length_eq_zero_iff]
theorem recR_two (r : Rc) (h : r.k = 2) (n1 n3 : Nat) (h1 : r.d.ls.length = n1) (h3 : r.a.length = n3) : recR r = (noDutyB n1 r.d && (rightB r.l && (decide (r.f = 0) && (decide (r.t = 0) && decide (n3 = 0))))) := by
  unfold recR noHushB
  rw [if_neg (by omega), if_pos h, ← h3, noDutyB_is r.d n1 h1]
  simp only [List.length_eq_zero_iff]
  rw [← Bool.and_assoc, Bool.and_comm (rightB r.l), Bool.and_assoc]
theorem recR_three (r : Rc) (h : r.k = 3) (n1 n2 : Nat) (h1 : r.d.ls.length = n1) (h2 : r.l.length = n2) : recR r = (noDutyB n1 r.d && (decide (n2 = 0) && hushR r.f r.t r.a)) := by
  unfold recR
  rw [if_neg (by omega), if_neg (by omega), if_pos h, ← h2, noDutyB_is r.d n1 h1]
  simp only [List.length_eq_zero_iff]
  rw [Bool.and_comm (hushR _ _ _), Bool.and_assoc]
theorem recR_other (r : Rc) (h1 : r.k ≠ 1) (h2 : r.k ≠ 2) (h3 : r.k ≠ 3) : recR r = false := by
  unfold recR
  rw [if_neg h1, if_neg h2, if_neg h3]
set_option maxRecDepth 100000 in
set_option maxHeartbeats 6400000 in
theorem cright_any (o1 : Option Addr) (n1 c1 : Nat) (o2 : Option Addr) (n2 c2 : Nat) (o3 : Option Addr) (n3 c3 : Nat) (r : Rc) (w : World) (h : RAt w o1 n1 c1 o2 n2 c2 o3 n3 c3 r) :
    Calls Try.prog 9 #[aggRc o1 n1 c1 o2 n2 c2 o3 n3 c3 r] w fun e w' => e = .returned (.bool (recR r)) ∧ Below w.heap.size w w' := by
  have HK1 := Lib.hid (fun e => recR_one r e n2 n3 h.l.len h.ms.len)
  have HK2 := Lib.hid (fun e => recR_two r e n1 n3 h.ls.len h.ms.len)
  have HK3 := Lib.hid (fun e => recR_three r e n1 n2 h.ls.len h.l.len)
  have HK0 := Lib.hid (recR_other r)
  obtain ⟨R, hR⟩ : ∃ R, Hid (recR r = R) := ⟨_, rfl⟩
  rw [hR.out] at HK1 HK2 HK3 HK0
  rw [hR.out]
  clear hR
  have hb1 := h.b1
  have hb2 := h.b2
  have hb3 := h.b3
  obtain ⟨k, ⟨l, rt, pl, tr, du, st⟩, m, f, t, q⟩ := r
  dsimp only [aggRc, recV] at *
  have V0 := Vals.new w 29 #[.int .i64 k, .slice o1 n1 c1, .int .i64 rt, .int .i64 pl, .int .i64 tr, .int .i64 du, .int .i64 st, .slice o2 n2 c2, .int .i64 f, .int .i64 t, .slice o3 n3 c3]
  have B0 := below_alloc w (.cells #[.int .i64 k, .slice o1 n1 c1, .int .i64 rt, .int .i64 pl, .int .i64 tr, .int .i64 du, .int .i64 st, .slice o2 n2 c2, .int .i64 f, .int .i64 t, .slice o3 n3 c3] 29)
  have h0 := h.below B0 (Nat.le_refl _)
  have HD := isDuty_any o1 n1 c1 ⟨l, rt, pl, tr, du, st⟩ _ h0.ls hb1
  have HN := noDuty_any o1 n1 c1 ⟨l, rt, pl, tr, du, st⟩ (w.alloc (.cells #[.int .i64 k, .slice o1 n1 c1, .int .i64 rt, .int .i64 pl, .int .i64 tr, .int .i64 du, .int .i64 st, .slice o2 n2 c2, .int .i64 f, .int .i64 t, .slice o3 n3 c3] 29))
  have HL := fun w (h : RAt w o1 n1 c1 o2 n2 c2 o3 n3 c3 ⟨k, ⟨l, rt, pl, tr, du, st⟩, m, f, t, q⟩) => right_any o2 n2 c2 m w h.l hb2
  have HH := fun w (h : RAt w o1 n1 c1 o2 n2 c2 o3 n3 c3 ⟨k, ⟨l, rt, pl, tr, du, st⟩, m, f, t, q⟩) => isHush_any f t o3 n3 c3 q w h.ms hb3
  have HZ := fun w => noHush_any f t o3 n3 c3 w
  dsimp only [aggD, dV] at HD HN
  generalize dutyB ⟨l, rt, pl, tr, du, st⟩ = a at *
  generalize noDutyB n1 ⟨l, rt, pl, tr, du, st⟩ = b at *
  generalize rightB m = c at *
  generalize hushR f t q = d at *
  generalize (decide (f = 0) && (decide (t = 0) && decide (n3 = 0))) = e0 at *
  clear h
  go_enter Try.func9, Try.ntmps9
  go_upto_region 1 with fail
  generalize w.alloc _ = w1 at *
  have p0 : w1.cell? ⟨w.heap.size, 0, none⟩ = some (.int .i64 k) := V0.cell 0
  have p1 : w1.cell? ⟨w.heap.size, 1, none⟩ = some (.slice o1 n1 c1) := V0.cell 1
  have p2 : w1.cell? ⟨w.heap.size, 2, none⟩ = some (.int .i64 rt) := V0.cell 2
  have p3 : w1.cell? ⟨w.heap.size, 3, none⟩ = some (.int .i64 pl) := V0.cell 3
  have p4 : w1.cell? ⟨w.heap.size, 4, none⟩ = some (.int .i64 tr) := V0.cell 4
  have p5 : w1.cell? ⟨w.heap.size, 5, none⟩ = some (.int .i64 du) := V0.cell 5
  have p6 : w1.cell? ⟨w.heap.size, 6, none⟩ = some (.int .i64 st) := V0.cell 6
  by_cases k1 : k = 1
  · subst k1
    have HQ := Lib.hid (HK1.out rfl)
    clear HK1 HK2 HK3 HK0 HN HL HH
    go_wp2_with fail
    refine HD.mono ?_
    rintro e w2 ⟨rfl, B2⟩
    have V2 := V0.keep B2 (Nat.le_refl _)
    have B3 := B0.trans (B2.mono B0.size)
    clear V0 B0 HD p0 p1 p2 p3 p4 p5 p6 B2 h0
    have q7 : w2.cell? ⟨w.heap.size, 7, none⟩ = some (.slice o2 n2 c2) := V2.cell 7
    have q8 : w2.cell? ⟨w.heap.size, 8, none⟩ = some (.int .i64 f) := V2.cell 8
    have q9 : w2.cell? ⟨w.heap.size, 9, none⟩ = some (.int .i64 t) := V2.cell 9
    have q10 : w2.cell? ⟨w.heap.size, 10, none⟩ = some (.slice o3 n3 c3) := V2.cell 10
    cases a with
    | false =>
      go_wp2_with fail
      go_ret
      exact ⟨retB (by rw [HQ.out]; rfl), B3⟩
    | true =>
      by_cases hn : n2 = 0
      · subst hn
        go_wp2_with fail
        refine (HZ _).mono ?_
        rintro e w4 ⟨rfl, B4⟩
        go_wp2_with fail
        go_ret
        exact ⟨retB (by rw [HQ.out]; rfl), B3.trans (B4.mono B3.size)⟩
      · have hz : ((n2 : Int) == 0) = false := by simp; omega
        go_wp2_with fail
        go_ret
        exact ⟨retB (by rw [HQ.out]; simp [hn]), B3⟩
  · by_cases k2 : k = 2
    · subst k2
      have HQ := Lib.hid (HK2.out rfl)
      clear HK1 HK2 HK3 HK0 HD HH
      go_wp2_with fail
      refine HN.mono ?_
      rintro e w2 ⟨rfl, B2⟩
      have V2 := V0.keep B2 (Nat.le_refl _)
      have B3 := B0.trans (B2.mono B0.size)
      have h2 := h0.below B2 (Nat.le_refl _)
      have HL1 := HL _ h2
      clear V0 B0 HN p0 p1 p2 p3 p4 p5 p6 B2 h0 HL h2
      have q7 : w2.cell? ⟨w.heap.size, 7, none⟩ = some (.slice o2 n2 c2) := V2.cell 7
      cases b with
      | false =>
        go_wp2_with fail
        go_ret
        exact ⟨retB (by rw [HQ.out]; rfl), B3⟩
      | true =>
        go_wp2_with fail
        refine HL1.mono ?_
        rintro e w4 ⟨rfl, B4⟩
        have V4 := V2.keep B4 (Nat.le_refl _)
        have B5 := B3.trans (B4.mono B3.size)
        clear V2 B3 B4 HL1 q7
        have q8 : w4.cell? ⟨w.heap.size, 8, none⟩ = some (.int .i64 f) := V4.cell 8
        have q9 : w4.cell? ⟨w.heap.size, 9, none⟩ = some (.int .i64 t) := V4.cell 9
        have q10 : w4.cell? ⟨w.heap.size, 10, none⟩ = some (.slice o3 n3 c3) := V4.cell 10
        cases c with
        | false =>
          go_wp2_with fail
          go_ret
          exact ⟨retB (by rw [HQ.out]; rfl), B5⟩
        | true =>
          go_wp2_with fail
          refine (HZ _).mono ?_
          rintro e w6 ⟨rfl, B6⟩
          go_wp2_with fail
          go_ret
          exact ⟨retB (by rw [HQ.out]; rfl), B5.trans (B6.mono B5.size)⟩
    · by_cases k3 : k = 3
      · subst k3
        have HQ := Lib.hid (HK3.out rfl)
        clear HK1 HK2 HK3 HK0 HD HL HZ
        go_wp2_with fail
        refine HN.mono ?_
        rintro e w2 ⟨rfl, B2⟩
        have V2 := V0.keep B2 (Nat.le_refl _)
        have B3 := B0.trans (B2.mono B0.size)
        have h2 := h0.below B2 (Nat.le_refl _)
        have HH1 := HH _ h2
        clear V0 B0 HN p0 p1 p2 p3 p4 p5 p6 B2 h0 HH h2
        have q7 : w2.cell? ⟨w.heap.size, 7, none⟩ = some (.slice o2 n2 c2) := V2.cell 7
        have q8 : w2.cell? ⟨w.heap.size, 8, none⟩ = some (.int .i64 f) := V2.cell 8
        have q9 : w2.cell? ⟨w.heap.size, 9, none⟩ = some (.int .i64 t) := V2.cell 9
        have q10 : w2.cell? ⟨w.heap.size, 10, none⟩ = some (.slice o3 n3 c3) := V2.cell 10
        cases b with
        | false =>
          go_wp2_with fail
          go_ret
          exact ⟨retB (by rw [HQ.out]; rfl), B3⟩
        | true =>
          by_cases hn : n2 = 0
          · subst hn
            go_wp2_with fail
            refine HH1.mono ?_
            rintro e w4 ⟨rfl, B4⟩
            go_wp2_with fail
            go_ret
            exact ⟨retB (by rw [HQ.out]; rfl), B3.trans (B4.mono B3.size)⟩
          · have hz : ((n2 : Int) == 0) = false := by simp; omega
            go_wp2_with fail
            go_ret
            exact ⟨retB (by rw [HQ.out]; simp [hn]), B3⟩
      · have HQ := Lib.hid (HK0.out k1 k2 k3)
        have e1 : (k == 1) = false := by simp [k1]
        have e2 : (k == 2) = false := by simp [k2]
        have e3 : (k == 3) = false := by simp [k3]
        clear HK1 HK2 HK3 HK0 HD HL HZ HN HH
        go_wp2_with fail
        go_ret
        exact ⟨retB HQ.out.symm, B0⟩
end Go.Proofs.Ytopjiokbmpghjaa
