/-
  The document's own: which records may be; the bytes of any that may.
-/
import Derived.Test.YtopjiokbmpghjaaRcdG
import Derived.Test.YtopjiokbmpghjaaRcdC
namespace Go.Proofs.Ytopjiokbmpghjaa
open Go.RowKit Go.Shelf
set_option linter.unusedVariables false
set_option linter.unusedSimpArgs false

theorem noHush_same (r : Rc) : noHushB r = sameH r.f r.t 0 0 r.a [] := rfl
/-- no text of theirs is long -/
structure RSh (r : Rc) : Prop where
  ls : ShortL r.d.ls
  l : ShortL r.l
  a : ShortM r.a
set_option maxRecDepth 100000 in
set_option maxHeartbeats 6400000 in
theorem refRec_any (o1 : Option Addr) (n1 c1 : Nat) (o2 : Option Addr) (n2 c2 : Nat) (o3 : Option Addr) (n3 c3 : Nat) (r : Rc) (w : World) (h : RAt w o1 n1 c1 o2 n2 c2 o3 n3 c3 r) (hS : RSh r) :
    Calls Try.prog 10 #[aggRc o1 n1 c1 o2 n2 c2 o3 n3 c3 r] w fun e w' => e = .returned (.bool (recR r)) ∧ Below w.heap.size w w' := by
  have HQ : Hid (recR r = if r.k = 1 then dutyB r.d && (decide (r.l = []) && sameH r.f r.t 0 0 r.a []) else if r.k = 2 then rightB r.l && (decide (r.d = zD) && sameH r.f r.t 0 0 r.a []) else if r.k = 3 then hushR r.f r.t r.a && (decide (r.d = zD) && decide (r.l = [])) else false) := rfl
  have hl2 := h.l.len
  have HE : Hid (decide (r.l = []) = decide ((n2 : Int) = 0)) := by
    show _ = _
    rw [Bool.eq_iff_iff, decide_eq_true_eq, decide_eq_true_eq]
    constructor
    · intro e; rw [e] at hl2; simp at hl2; omega
    · intro e; exact List.eq_nil_of_length_eq_zero (by omega)
  rw [HE.out] at HQ
  clear HE hl2
  have B0 := below_alloc w (.cells (recV r.k (.slice o1 n1 c1) r.d (.slice o2 n2 c2) r.f r.t (.slice o3 n3 c3)) 29)
  have V0 := Vals.new w 29 (recV r.k (.slice o1 n1 c1) r.d (.slice o2 n2 c2) r.f r.t (.slice o3 n3 c3))
  have h0 := h.below B0 (Nat.le_refl _)
  have HD := fun (w : World) (h : RAt w o1 n1 c1 o2 n2 c2 o3 n3 c3 r) => sameD_any o1 n1 c1 none 0 0 r.d zD w h.ls (Ls.nil _ _ _) h.b1
  have HH := fun (w : World) (h : RAt w o1 n1 c1 o2 n2 c2 o3 n3 c3 r) => sameH_any r.f r.t o3 n3 c3 0 0 none 0 0 r.a [] w h.ms (Ms.nil _ _ _) h.b3
  have HU := fun (w : World) (h : RAt w o1 n1 c1 o2 n2 c2 o3 n3 c3 r) => refDuty_any o1 n1 c1 r.d w h.ls h.b1 hS.ls
  have HL := fun (w : World) (h : RAt w o1 n1 c1 o2 n2 c2 o3 n3 c3 r) => refRight_any o2 n2 c2 r.l w h.l h.b2 hS.l
  have HM := fun (w : World) (h : RAt w o1 n1 c1 o2 n2 c2 o3 n3 c3 r) => refHushR_any r.f r.t o3 n3 c3 r.a w h.ms h.b3 hS.a
  obtain ⟨R, hR⟩ : ∃ R, Hid (recR r = R) := ⟨_, rfl⟩
  rw [hR.out] at HQ
  rw [hR.out]
  clear hR h hS
  generalize decide (r.d = zD) = D at *
  generalize sameH r.f r.t 0 0 r.a [] = H at *
  generalize dutyB r.d = U at *
  generalize rightB r.l = L at *
  generalize hushR r.f r.t r.a = M at *
  obtain ⟨k, ⟨l, rt, pl, tr, du, st⟩, m, f, t, a⟩ := r
  dsimp only [aggRc, recV, aggD, dV] at *
  go_enter Try.func10, Try.ntmps10
  go_upto_region 1 with fail
  generalize w.alloc _ = w1 at *
  have p0 : w1.cell? ⟨w.heap.size, 0, none⟩ = some (.int .i64 k) := V0.cell 0
  have p1 : w1.cell? ⟨w.heap.size, 1, none⟩ = some (.slice o1 n1 c1) := V0.cell 1
  have p2 : w1.cell? ⟨w.heap.size, 2, none⟩ = some (.int .i64 rt) := V0.cell 2
  have p3 : w1.cell? ⟨w.heap.size, 3, none⟩ = some (.int .i64 pl) := V0.cell 3
  have p4 : w1.cell? ⟨w.heap.size, 4, none⟩ = some (.int .i64 tr) := V0.cell 4
  have p5 : w1.cell? ⟨w.heap.size, 5, none⟩ = some (.int .i64 du) := V0.cell 5
  have p6 : w1.cell? ⟨w.heap.size, 6, none⟩ = some (.int .i64 st) := V0.cell 6
  have p7 : w1.cell? ⟨w.heap.size, 7, none⟩ = some (.slice o2 n2 c2) := V0.cell 7
  have p8 : w1.cell? ⟨w.heap.size, 8, none⟩ = some (.int .i64 f) := V0.cell 8
  have p9 : w1.cell? ⟨w.heap.size, 9, none⟩ = some (.int .i64 t) := V0.cell 9
  have p10 : w1.cell? ⟨w.heap.size, 10, none⟩ = some (.slice o3 n3 c3) := V0.cell 10
  have HD1 := HD _ h0
  clear HD
  go_wp2_with fail
  refine HD1.mono ?_
  rintro e w2 ⟨rfl, B1⟩
  have V2 := V0.keep B1 (Nat.le_refl _)
  have h2 := h0.below B1 (Nat.le_refl _)
  have B2 := B0.trans (B1.mono B0.size)
  clear p0 p1 p2 p3 p4 p5 p6 p7 p8 p9 p10 V0 h0 B0 B1 HD1
  have p0 : w2.cell? ⟨w.heap.size, 0, none⟩ = some (.int .i64 k) := V2.cell 0
  have p1 : w2.cell? ⟨w.heap.size, 1, none⟩ = some (.slice o1 n1 c1) := V2.cell 1
  have p2 : w2.cell? ⟨w.heap.size, 2, none⟩ = some (.int .i64 rt) := V2.cell 2
  have p3 : w2.cell? ⟨w.heap.size, 3, none⟩ = some (.int .i64 pl) := V2.cell 3
  have p4 : w2.cell? ⟨w.heap.size, 4, none⟩ = some (.int .i64 tr) := V2.cell 4
  have p5 : w2.cell? ⟨w.heap.size, 5, none⟩ = some (.int .i64 du) := V2.cell 5
  have p6 : w2.cell? ⟨w.heap.size, 6, none⟩ = some (.int .i64 st) := V2.cell 6
  have p7 : w2.cell? ⟨w.heap.size, 7, none⟩ = some (.slice o2 n2 c2) := V2.cell 7
  have p8 : w2.cell? ⟨w.heap.size, 8, none⟩ = some (.int .i64 f) := V2.cell 8
  have p9 : w2.cell? ⟨w.heap.size, 9, none⟩ = some (.int .i64 t) := V2.cell 9
  have p10 : w2.cell? ⟨w.heap.size, 10, none⟩ = some (.slice o3 n3 c3) := V2.cell 10
  have HH1 := HH _ h2
  clear HH
  go_wp2_with fail
  refine HH1.mono ?_
  rintro e w3 ⟨rfl, B3⟩
  have V3 := V2.keep B3 (Nat.le_refl _)
  have h3 := h2.below B3 (Nat.le_refl _)
  have B4 := B2.trans (B3.mono B2.size)
  clear p0 p1 p2 p3 p4 p5 p6 p7 p8 p9 p10 V2 h2 B2 B3 HH1
  have p0 : w3.cell? ⟨w.heap.size, 0, none⟩ = some (.int .i64 k) := V3.cell 0
  have p1 : w3.cell? ⟨w.heap.size, 1, none⟩ = some (.slice o1 n1 c1) := V3.cell 1
  have p2 : w3.cell? ⟨w.heap.size, 2, none⟩ = some (.int .i64 rt) := V3.cell 2
  have p3 : w3.cell? ⟨w.heap.size, 3, none⟩ = some (.int .i64 pl) := V3.cell 3
  have p4 : w3.cell? ⟨w.heap.size, 4, none⟩ = some (.int .i64 tr) := V3.cell 4
  have p5 : w3.cell? ⟨w.heap.size, 5, none⟩ = some (.int .i64 du) := V3.cell 5
  have p6 : w3.cell? ⟨w.heap.size, 6, none⟩ = some (.int .i64 st) := V3.cell 6
  have p7 : w3.cell? ⟨w.heap.size, 7, none⟩ = some (.slice o2 n2 c2) := V3.cell 7
  have p8 : w3.cell? ⟨w.heap.size, 8, none⟩ = some (.int .i64 f) := V3.cell 8
  have p9 : w3.cell? ⟨w.heap.size, 9, none⟩ = some (.int .i64 t) := V3.cell 9
  have p10 : w3.cell? ⟨w.heap.size, 10, none⟩ = some (.slice o3 n3 c3) := V3.cell 10
  by_cases k1 : k = 1
  · have HU1 := HU _ h3
    rw [if_pos k1] at HQ
    have e1 : (k == 1) = true := by simp [k1]
    subst k1
    clear HU HL HM
    go_wp2_with fail
    refine HU1.mono ?_
    rintro e w4 ⟨rfl, B5⟩
    have V4 := V3.keep B5 (Nat.le_refl _)
    have B6 := B4.trans (B5.mono B4.size)
    clear p0 p1 p2 p3 p4 p5 p6 p7 p8 p9 p10 V3 h3 B4 B5 HU1
    have p7 : w4.cell? ⟨w.heap.size, 7, none⟩ = some (.slice o2 n2 c2) := V4.cell 7
    clear V4
    cases U with
    | false =>
      go_wp2_with fail
      go_ret
      exact ⟨retB (by rw [HQ.out]; rfl), B6⟩
    | true =>
      by_cases hn : (n2 : Int) = 0
      · have e2 : ((n2 : Int) == 0) = true := by simp [hn]
        rw [decide_eq_true hn] at HQ
        go_wp2_with fail
        go_ret
        exact ⟨retB (by rw [HQ.out]; simp), B6⟩
      · have e2 : ((n2 : Int) == 0) = false := by simp; omega
        rw [decide_eq_false hn] at HQ
        go_wp2_with fail
        go_ret
        exact ⟨retB (by rw [HQ.out]; simp), B6⟩
  · rw [if_neg k1] at HQ
    have e1 : (k == 1) = false := by simp [k1]
    by_cases k2 : k = 2
    · have HL1 := HL _ h3
      rw [if_pos k2] at HQ
      have e2 : (k == 2) = true := by simp [k2]
      subst k2
      clear HU HL HM
      go_wp2_with fail
      refine HL1.mono ?_
      rintro e w4 ⟨rfl, B5⟩
      have B6 := B4.trans (B5.mono B4.size)
      clear p0 p1 p2 p3 p4 p5 p6 p7 p8 p9 p10 V3 h3 B4 B5 HL1
      cases L with
      | false =>
        go_wp2_with fail
        go_ret
        exact ⟨retB (by rw [HQ.out]; rfl), B6⟩
      | true =>
        cases D with
        | false =>
          go_wp2_with fail
          go_ret
          exact ⟨retB (by rw [HQ.out]; simp), B6⟩
        | true =>
          go_wp2_with fail
          go_ret
          exact ⟨retB (by rw [HQ.out]; simp), B6⟩
    · rw [if_neg k2] at HQ
      have e2 : (k == 2) = false := by simp [k2]
      by_cases k3 : k = 3
      · have HM1 := HM _ h3
        rw [if_pos k3] at HQ
        have e3 : (k == 3) = true := by simp [k3]
        subst k3
        clear HU HL HM
        go_wp2_with fail
        refine HM1.mono ?_
        rintro e w4 ⟨rfl, B5⟩
        have V4 := V3.keep B5 (Nat.le_refl _)
        have B6 := B4.trans (B5.mono B4.size)
        clear p0 p1 p2 p3 p4 p5 p6 p7 p8 p9 p10 V3 h3 B4 B5 HM1
        have p7 : w4.cell? ⟨w.heap.size, 7, none⟩ = some (.slice o2 n2 c2) := V4.cell 7
        clear V4
        cases M with
        | false =>
          go_wp2_with fail
          go_ret
          exact ⟨retB (by rw [HQ.out]; rfl), B6⟩
        | true =>
          cases D with
          | false =>
            go_wp2_with fail
            go_ret
            exact ⟨retB (by rw [HQ.out]; simp), B6⟩
          | true =>
            by_cases hn : (n2 : Int) = 0
            · have e4 : ((n2 : Int) == 0) = true := by simp [hn]
              rw [decide_eq_true hn] at HQ
              go_wp2_with fail
              go_ret
              exact ⟨retB (by rw [HQ.out]; simp [hn]), B6⟩
            · have e4 : ((n2 : Int) == 0) = false := by simp; omega
              rw [decide_eq_false hn] at HQ
              go_wp2_with fail
              go_ret
              exact ⟨retB (by rw [HQ.out]; simp), B6⟩
      · rw [if_neg k3] at HQ
        have e3 : (k == 3) = false := by simp [k3]
        clear HU HL HM
        go_wp2_with fail
        go_ret
        exact ⟨retB (by rw [HQ.out]), B4⟩
theorem refPut_any (o1 : Option Addr) (n1 c1 : Nat) (o2 : Option Addr) (n2 c2 : Nat) (o3 : Option Addr) (n3 c3 : Nat) (r : Rc) (w : World) (h : RAt w o1 n1 c1 o2 n2 c2 o3 n3 c3 r) (hr : recR r = true) :
    Calls Try.prog 12 #[aggRc o1 n1 c1 o2 n2 c2 o3 n3 c3 r] w fun e w' => e = .returned (.string (tx (putL r))) ∧ Below w.heap.size w w' := by
  rcases recR_cases hr with ⟨d, hd, rfl⟩ | ⟨l, hl, rfl⟩ | ⟨f, t, a, hh, rfl⟩
  · exact refPut_duty o1 n1 c1 d o2 n2 c2 0 0 o3 n3 c3 w h.ls hd
  · exact refPut_gone o1 n1 c1 zD o2 n2 c2 l 0 0 o3 n3 c3 w h.l hl
  · exact refPut_hush o1 n1 c1 zD o2 n2 c2 f t o3 n3 c3 a w h.ms hh
end Go.Proofs.Ytopjiokbmpghjaa
