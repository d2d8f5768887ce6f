/-
  The document's own: the same records; which duties may be in a record, and which records may be.
-/
import Derived.Test.YtopjiokbmpghjaaRcdS
import Derived.Test.YtopjiokbmpghjaaRefMats
import Derived.Test.YtopjiokbmpghjaaRefRight
import Derived.RegionTactic
namespace Go.Proofs.Ytopjiokbmpghjaa
open Go.RowKit Go.Shelf
set_option linter.unusedVariables false
set_option linter.unusedSimpArgs false

theorem sameRc_is (a b : Rc) : decide (a = b) = (decide (a.k = b.k) && (decide (a.d = b.d) && (sameR a.l b.l && sameH a.f a.t b.f b.t a.a b.a))) := by
  unfold sameR sameH sameA
  rw [Bool.eq_iff_iff]
  simp only [Bool.and_eq_true, decide_eq_true_eq]
  constructor
  · rintro rfl
    exact ⟨rfl, rfl, rfl, rfl, rfl, rfl⟩
  · rintro ⟨h1, h2, h3, h4, h5, h6⟩
    obtain ⟨a1, a2, a3, a4, a5, a6⟩ := a
    obtain ⟨b1, b2, b3, b4, b5, b6⟩ := b
    dsimp only at *
    subst h1 h2 h3 h4 h5 h6
    rfl
/-- a record as it lies -/
structure RAt (w : World) (o1 : Option Addr) (n1 c1 : Nat) (o2 : Option Addr) (n2 c2 : Nat) (o3 : Option Addr) (n3 c3 : Nat) (r : Rc) : Prop where
  ls : Ls w o1 n1 c1 r.d.ls
  l : Ls w o2 n2 c2 r.l
  ms : Ms w o3 n3 c3 r.a
  b1 : n1 ≤ 4611686018427387904
  b2 : n2 ≤ 4611686018427387904
  b3 : n3 ≤ 3074457345618258602
theorem RAt.below {w w' : World} {o1 : Option Addr} {n1 c1 : Nat} {o2 : Option Addr} {n2 c2 : Nat} {o3 : Option Addr} {n3 c3 : Nat} {r : Rc} (h : RAt w o1 n1 c1 o2 n2 c2 o3 n3 c3 r) {C : Nat} (hB : Below C w w') (hC : w.heap.size ≤ C) : RAt w' o1 n1 c1 o2 n2 c2 o3 n3 c3 r :=
  ⟨h.ls.below hB hC, h.l.below hB hC, h.ms.below hB hC, h.b1, h.b2, h.b3⟩
theorem RAt.nil (w : World) : RAt w none 0 0 none 0 0 none 0 0 zRc := ⟨Ls.nil _ _ _, Ls.nil _ _ _, Ms.nil _ _ _, by omega, by omega, by omega⟩
set_option maxRecDepth 100000 in
set_option maxHeartbeats 6400000 in
theorem sameRc_any (x1 : Option Addr) (xn1 xc1 : Nat) (x2 : Option Addr) (xn2 xc2 : Nat) (x3 : Option Addr) (xn3 xc3 : Nat) (a : Rc) (y1 : Option Addr) (yn1 yc1 : Nat) (y2 : Option Addr) (yn2 yc2 : Nat) (y3 : Option Addr) (yn3 yc3 : Nat) (b : Rc) (w : World) (h : RAt w x1 xn1 xc1 x2 xn2 xc2 x3 xn3 xc3 a) (h' : RAt w y1 yn1 yc1 y2 yn2 yc2 y3 yn3 yc3 b) :
    Calls Try.prog 15 #[aggRc x1 xn1 xc1 x2 xn2 xc2 x3 xn3 xc3 a, aggRc y1 yn1 yc1 y2 yn2 yc2 y3 yn3 yc3 b] w fun e w' => e = .returned (.bool (decide (a = b))) ∧ Below w.heap.size w w' := by
  have HQ := Lib.hid (sameRc_is a b)
  obtain ⟨R, hR⟩ : ∃ R, Hid (decide (a = b) = R) := ⟨_, rfl⟩
  rw [hR.out] at HQ
  rw [hR.out]
  clear hR
  obtain ⟨xk, ⟨xl, xrt, xpl, xtr, xdu, xst⟩, xm, xf, xt, xa⟩ := a
  obtain ⟨yk, ⟨yl, yrt, ypl, ytr, ydu, yst⟩, ym, yf, yt, ya⟩ := b
  dsimp only [aggRc, recV] at *
  obtain ⟨Vx, Vy, B0⟩ := pair_boxes w 29 29 #[.int .i64 xk, .slice x1 xn1 xc1, .int .i64 xrt, .int .i64 xpl, .int .i64 xtr, .int .i64 xdu, .int .i64 xst, .slice x2 xn2 xc2, .int .i64 xf, .int .i64 xt, .slice x3 xn3 xc3] #[.int .i64 yk, .slice y1 yn1 yc1, .int .i64 yrt, .int .i64 ypl, .int .i64 ytr, .int .i64 ydu, .int .i64 yst, .slice y2 yn2 yc2, .int .i64 yf, .int .i64 yt, .slice y3 yn3 yc3]
  have HD := fun (w : World) (h : RAt w x1 xn1 xc1 x2 xn2 xc2 x3 xn3 xc3 ⟨xk, ⟨xl, xrt, xpl, xtr, xdu, xst⟩, xm, xf, xt, xa⟩) (h' : RAt w y1 yn1 yc1 y2 yn2 yc2 y3 yn3 yc3 ⟨yk, ⟨yl, yrt, ypl, ytr, ydu, yst⟩, ym, yf, yt, ya⟩) => sameD_any x1 xn1 xc1 y1 yn1 yc1 ⟨xl, xrt, xpl, xtr, xdu, xst⟩ ⟨yl, yrt, ypl, ytr, ydu, yst⟩ w h.ls h'.ls h.b1
  have HL := fun (w : World) (h : RAt w x1 xn1 xc1 x2 xn2 xc2 x3 xn3 xc3 ⟨xk, ⟨xl, xrt, xpl, xtr, xdu, xst⟩, xm, xf, xt, xa⟩) (h' : RAt w y1 yn1 yc1 y2 yn2 yc2 y3 yn3 yc3 ⟨yk, ⟨yl, yrt, ypl, ytr, ydu, yst⟩, ym, yf, yt, ya⟩) => same_any x2 xn2 xc2 y2 yn2 yc2 xm ym w h.l h'.l h.b2
  have HH := fun (w : World) (h : RAt w x1 xn1 xc1 x2 xn2 xc2 x3 xn3 xc3 ⟨xk, ⟨xl, xrt, xpl, xtr, xdu, xst⟩, xm, xf, xt, xa⟩) (h' : RAt w y1 yn1 yc1 y2 yn2 yc2 y3 yn3 yc3 ⟨yk, ⟨yl, yrt, ypl, ytr, ydu, yst⟩, ym, yf, yt, ya⟩) => sameH_any xf xt x3 xn3 xc3 yf yt y3 yn3 yc3 xa ya w h.ms h'.ms h.b3
  have h0 := h.below B0 (Nat.le_refl _)
  have h0' := h'.below B0 (Nat.le_refl _)
  dsimp only [aggD, dV] at HD
  generalize decide ((⟨xl, xrt, xpl, xtr, xdu, xst⟩ : D6) = ⟨yl, yrt, ypl, ytr, ydu, yst⟩) = D at *
  generalize sameR xm ym = S at *
  generalize sameH xf xt yf yt xa ya = T at *
  clear h h'
  go_enter Try.func15, Try.ntmps15
  go_upto_region 1 with fail
  generalize (w.alloc _).alloc _ = w1 at *
  have p0 : w1.cell? ⟨w.heap.size, 0, none⟩ = some (.int .i64 xk) := Vx.cell 0
  have p1 : w1.cell? ⟨w.heap.size, 1, none⟩ = some (.slice x1 xn1 xc1) := Vx.cell 1
  have p2 : w1.cell? ⟨w.heap.size, 2, none⟩ = some (.int .i64 xrt) := Vx.cell 2
  have p3 : w1.cell? ⟨w.heap.size, 3, none⟩ = some (.int .i64 xpl) := Vx.cell 3
  have p4 : w1.cell? ⟨w.heap.size, 4, none⟩ = some (.int .i64 xtr) := Vx.cell 4
  have p5 : w1.cell? ⟨w.heap.size, 5, none⟩ = some (.int .i64 xdu) := Vx.cell 5
  have p6 : w1.cell? ⟨w.heap.size, 6, none⟩ = some (.int .i64 xst) := Vx.cell 6
  have p7 : w1.cell? ⟨w.heap.size, 7, none⟩ = some (.slice x2 xn2 xc2) := Vx.cell 7
  have p8 : w1.cell? ⟨w.heap.size, 8, none⟩ = some (.int .i64 xf) := Vx.cell 8
  have p9 : w1.cell? ⟨w.heap.size, 9, none⟩ = some (.int .i64 xt) := Vx.cell 9
  have p10 : w1.cell? ⟨w.heap.size, 10, none⟩ = some (.slice x3 xn3 xc3) := Vx.cell 10
  have q0 : w1.cell? ⟨w.heap.size + 1, 0, none⟩ = some (.int .i64 yk) := Vy.cell 0
  have q1 : w1.cell? ⟨w.heap.size + 1, 1, none⟩ = some (.slice y1 yn1 yc1) := Vy.cell 1
  have q2 : w1.cell? ⟨w.heap.size + 1, 2, none⟩ = some (.int .i64 yrt) := Vy.cell 2
  have q3 : w1.cell? ⟨w.heap.size + 1, 3, none⟩ = some (.int .i64 ypl) := Vy.cell 3
  have q4 : w1.cell? ⟨w.heap.size + 1, 4, none⟩ = some (.int .i64 ytr) := Vy.cell 4
  have q5 : w1.cell? ⟨w.heap.size + 1, 5, none⟩ = some (.int .i64 ydu) := Vy.cell 5
  have q6 : w1.cell? ⟨w.heap.size + 1, 6, none⟩ = some (.int .i64 yst) := Vy.cell 6
  have q7 : w1.cell? ⟨w.heap.size + 1, 7, none⟩ = some (.slice y2 yn2 yc2) := Vy.cell 7
  have q8 : w1.cell? ⟨w.heap.size + 1, 8, none⟩ = some (.int .i64 yf) := Vy.cell 8
  have q9 : w1.cell? ⟨w.heap.size + 1, 9, none⟩ = some (.int .i64 yt) := Vy.cell 9
  have q10 : w1.cell? ⟨w.heap.size + 1, 10, none⟩ = some (.slice y3 yn3 yc3) := Vy.cell 10
  by_cases hk : xk = yk
  · have e0 : (xk == yk) = true := by simp [hk]
    have HD1 := HD _ h0 h0'
    clear HD
    go_wp2_with fail
    refine HD1.mono ?_
    rintro e w2 ⟨rfl, B1⟩
    have Vx2 := Vx.keep B1 (Nat.le_refl _)
    have Vy2 := Vy.keep B1 (Nat.le_refl _)
    have h2 := h0.below B1 (Nat.le_refl _)
    have h2' := h0'.below B1 (Nat.le_refl _)
    have B2 := B0.trans (B1.mono B0.size)
    clear HD1 Vx Vy h0 h0' B0 B1 p0 p1 p2 p3 p4 p5 p6 p7 p8 p9 p10 q0 q1 q2 q3 q4 q5 q6 q7 q8 q9 q10
    cases D with
    | false =>
      go_wp2_with fail
      go_ret
      exact ⟨retB (by rw [HQ.out]; simp), B2⟩
    | true =>
      have p7 : w2.cell? ⟨w.heap.size, 7, none⟩ = some (.slice x2 xn2 xc2) := Vx2.cell 7
      have q7 : w2.cell? ⟨w.heap.size + 1, 7, none⟩ = some (.slice y2 yn2 yc2) := Vy2.cell 7
      have HL1 := HL _ h2 h2'
      clear HL
      go_wp2_with fail
      refine HL1.mono ?_
      rintro e w3 ⟨rfl, B3⟩
      have Vx3 := Vx2.keep B3 (Nat.le_refl _)
      have Vy3 := Vy2.keep B3 (Nat.le_refl _)
      have h3 := h2.below B3 (Nat.le_refl _)
      have h3' := h2'.below B3 (Nat.le_refl _)
      have B4 := B2.trans (B3.mono B2.size)
      clear HL1 Vx2 Vy2 h2 h2' B2 B3 p7 q7
      cases S with
      | false =>
        go_wp2_with fail
        go_ret
        exact ⟨retB (by rw [HQ.out]; simp), B4⟩
      | true =>
        have p8 : w3.cell? ⟨w.heap.size, 8, none⟩ = some (.int .i64 xf) := Vx3.cell 8
        have p9 : w3.cell? ⟨w.heap.size, 9, none⟩ = some (.int .i64 xt) := Vx3.cell 9
        have p10 : w3.cell? ⟨w.heap.size, 10, none⟩ = some (.slice x3 xn3 xc3) := Vx3.cell 10
        have q8 : w3.cell? ⟨w.heap.size + 1, 8, none⟩ = some (.int .i64 yf) := Vy3.cell 8
        have q9 : w3.cell? ⟨w.heap.size + 1, 9, none⟩ = some (.int .i64 yt) := Vy3.cell 9
        have q10 : w3.cell? ⟨w.heap.size + 1, 10, none⟩ = some (.slice y3 yn3 yc3) := Vy3.cell 10
        have HH1 := HH _ h3 h3'
        clear HH
        go_wp2_with fail
        refine HH1.mono ?_
        rintro e w4 ⟨rfl, B5⟩
        go_wp2_with fail
        go_ret
        exact ⟨retB (by rw [HQ.out]; simp [hk]), B4.trans (B5.mono B4.size)⟩
  · have e0 : (xk == yk) = false := by simp [hk]
    clear HD HL HH
    go_wp2_with fail
    go_ret
    exact ⟨retB (by rw [HQ.out]; simp [hk]), B0⟩
end Go.Proofs.Ytopjiokbmpghjaa
