/-
  The program's own: the record of what is left of a text.
-/
import Derived.Test.YtopjiokbmpghjaaCodJ
namespace Go.Proofs.Ytopjiokbmpghjaa
open Go.RowKit Go.Shelf
set_option linter.unusedVariables false
set_option linter.unusedSimpArgs false

theorem retC9 {fn : Func} {p : Tmp} (h : fn.results = #[.cell p 29]) {tmps : Array Value} {w : World} {A : Nat} {v1 v2 v3 : Value} {k f t : Int} {d : D6} (hp : tmps.getD p undef = .pointer (some ⟨A, 0, none⟩))
    (hV : Vals w A 29 (recV k v1 d v2 f t v3)) : (results fn tmps).run Try.prog w = .ok (.agg (recV k v1 d v2 f t v3)) w := results_cell_row h tmps w A 29 (recV k v1 d v2 f t v3) _ _ hp hV Try.underlying29 rfl (by kernel_rfl)
theorem but_eleven {A E : Nat} {a w : World} (h : But A a w) (hE : a.heap.size ≤ E) (y0 y1 y2 y3 y4 y5 y6 y7 y8 y9 y10 : Value) :
    But A a (((((((((((w.setCell ⟨E, 0, none⟩ y0).setCell ⟨E, 1, none⟩ y1).setCell ⟨E, 2, none⟩ y2).setCell ⟨E, 3, none⟩ y3).setCell ⟨E, 4, none⟩ y4).setCell ⟨E, 5, none⟩ y5).setCell ⟨E, 6, none⟩ y6).setCell ⟨E, 7, none⟩ y7).setCell ⟨E, 8, none⟩ y8).setCell ⟨E, 9, none⟩ y9).setCell ⟨E, 10, none⟩ y10) :=
  ((((((((((h.past hE 0 y0).past hE 1 y1).past hE 2 y2).past hE 3 y3).past hE 4 y4).past hE 5 y5).past hE 6 y6).past hE 7 y7).past hE 8 y8).past hE 9 y9).past hE 10 y10
theorem left_eleven {A E : Nat} {w : World} {s : SR} (h : Left w A s) (hE : A ≠ E) (y0 y1 y2 y3 y4 y5 y6 y7 y8 y9 y10 : Value) :
    Left (((((((((((w.setCell ⟨E, 0, none⟩ y0).setCell ⟨E, 1, none⟩ y1).setCell ⟨E, 2, none⟩ y2).setCell ⟨E, 3, none⟩ y3).setCell ⟨E, 4, none⟩ y4).setCell ⟨E, 5, none⟩ y5).setCell ⟨E, 6, none⟩ y6).setCell ⟨E, 7, none⟩ y7).setCell ⟨E, 8, none⟩ y8).setCell ⟨E, 9, none⟩ y9).setCell ⟨E, 10, none⟩ y10) A s :=
  ((((((((((h.past hE 0 y0).past hE 1 y1).past hE 2 y2).past hE 3 y3).past hE 4 y4).past hE 5 y5).past hE 6 y6).past hE 7 y7).past hE 8 y8).past hE 9 y9).past hE 10 y10
set_option maxRecDepth 100000 in
set_option maxHeartbeats 12800000 in
theorem crecord_any (A : Nat) (s : SR) (hs : s.1.length ≤ 1000) (w : World) (h : Left w A s) :
    Calls Try.prog 35 #[.pointer (some ⟨A, 0, none⟩)] w fun e w' => (∃ o1 n1 c1 o2 n2 c2 o3 n3 c3, e = .returned (aggRc o1 n1 c1 o2 n2 c2 o3 n3 c3 (rcdR s).1) ∧ RAt w' o1 n1 c1 o2 n2 c2 o3 n3 c3 (rcdR s).1) ∧ Left w' A (rcdR s).2 ∧ But A w w' := by
  have hA := h.lt
  have k1 := num_len 1 s
  have H1 := fun w h => number_one A s hs w h
  have HD := fun w h => cduty_any A (num 1 s).2 (by omega) w h
  have HL := fun w h => clabels_any A (num 1 s).2 (by omega) w h
  have HH := fun w h => chush_any A (num 1 s).2 (by omega) w h
  obtain ⟨a, ha⟩ : ∃ a, num 1 s = a := ⟨_, rfl⟩
  have R1 : Hid (a.1 = 1 → rcdR s = (⟨1, (dutR a.2).1, [], 0, 0, []⟩, (dutR a.2).2)) := by intro q1; unfold rcdR; dsimp only; rw [ha, if_pos q1]
  have R2 : Hid (a.1 = 2 → rcdR s = (⟨2, zD, (labsR a.2).1, 0, 0, []⟩, (labsR a.2).2)) := by intro q1; unfold rcdR; dsimp only; rw [ha, if_neg (by omega), if_pos q1]
  have R3 : Hid (a.1 = 3 → rcdR s = (⟨3, zD, [], (hshR a.2).1.1, (hshR a.2).1.2.1, (hshR a.2).1.2.2⟩, (hshR a.2).2)) := by intro q1; unfold rcdR; dsimp only; rw [ha, if_neg (by omega), if_neg (by omega), if_pos q1]
  have R0 : Hid (a.1 ≠ 1 → a.1 ≠ 2 → a.1 ≠ 3 → rcdR s = (⟨(a.1 : Int), zD, [], 0, 0, []⟩, a.2)) := by intro q1 q2 q3; unfold rcdR; dsimp only; rw [ha, if_neg q1, if_neg q2, if_neg q3]
  rw [ha] at H1 HD HL HH
  obtain ⟨k, s1⟩ := a
  dsimp only at *
  generalize rcdR s = rr at *
  clear ha k1
  have VE := Vals.new w 29 zRV
  have hL0 : Left (w.alloc (.cells zRV 29)) A s := Vals.alloc (w := w) h _
  have B0 := (But.refl A w).alloc (.cells zRV 29)
  clear h
  go_enter Try.func35, Try.ntmps35
  go_upto_region 1 with fail
  generalize w.alloc _ = W at *
  generalize hE : w.heap.size = E at *
  have hAE : E ≠ A := by omega
  have hEW := VE.lt
  go_wp2_with fail
  refine (H1 _ hL0).mono ?_
  rintro e w1 ⟨rfl, hL1, B1⟩
  have V1 := B1.vals VE hAE
  have C1 := B0.trans B1
  have hE1 := V1.lt
  clear VE hL0 B0 B1 H1 hEW
  have hZ := C1.size
  have V2 := V1.alloc (.cells #[.int .i64 (k : Int), .slice none 0 0, .int .i64 0, .int .i64 0, .int .i64 0, .int .i64 0, .int .i64 0, .slice none 0 0, .int .i64 0, .int .i64 0, .slice none 0 0] 29)
  have VR := Vals.new w1 29 #[.int .i64 (k : Int), .slice none 0 0, .int .i64 0, .int .i64 0, .int .i64 0, .int .i64 0, .int .i64 0, .slice none 0 0, .int .i64 0, .int .i64 0, .slice none 0 0]
  have hL2 : Left (w1.alloc (.cells #[.int .i64 (k : Int), .slice none 0 0, .int .i64 0, .int .i64 0, .int .i64 0, .int .i64 0, .int .i64 0, .slice none 0 0, .int .i64 0, .int .i64 0, .slice none 0 0] 29)) A s1 := Vals.alloc (w := w1) hL1 _
  have C2 := C1.alloc (.cells #[.int .i64 (k : Int), .slice none 0 0, .int .i64 0, .int .i64 0, .int .i64 0, .int .i64 0, .int .i64 0, .slice none 0 0, .int .i64 0, .int .i64 0, .slice none 0 0] 29)
  go_upto_region 2 with fail
  generalize w1.alloc _ = w2 at *
  generalize hX : w1.heap.size = X at *
  have hXE : E ≠ X := by omega
  have hXA : X ≠ A := by have := Vals.lt hL1; omega
  have hXw : E ≤ X := by omega
  clear hL1 C1 V1 hE1 hX hZ
  have x0 : w2.cell? ⟨X, 0, none⟩ = some (.int .i64 (k : Int)) := VR.cell 0
  by_cases q1 : k = 1
  · subst q1
    have hQ := Lib.hid (R1.out rfl)
    clear R1 R2 R3 R0 HL HH
    generalize dutR s1 = y at *
    obtain ⟨⟨l, rt, pl, tr, du, st⟩, s2⟩ := y
    dsimp only [aggD, dV] at *
    go_wp2_with fail
    refine (HD _ hL2).mono ?_
    rintro e w3 ⟨⟨oa, n, cap, rfl, hLs, hn⟩, hL3, B3⟩
    have VA3 := B3.vals V2 hAE
    have VR3 := B3.vals VR hXA
    have C3 := C2.trans B3
    clear V2 VR C2 B3 hL2 x0 HD
    have f1 := VR3.free 1
    have f2 := VR3.free 2
    have f3 := VR3.free 3
    have f4 := VR3.free 4
    have f5 := VR3.free 5
    have f6 := VR3.free 6
    have u1 : w3.cell? ⟨X, 1, none⟩ = some (.slice none 0 0) := VR3.cell 1
    have u2 : w3.cell? ⟨X, 2, none⟩ = some (.int .i64 0) := VR3.cell 2
    have u3 : w3.cell? ⟨X, 3, none⟩ = some (.int .i64 0) := VR3.cell 3
    have u4 : w3.cell? ⟨X, 4, none⟩ = some (.int .i64 0) := VR3.cell 4
    have u5 : w3.cell? ⟨X, 5, none⟩ = some (.int .i64 0) := VR3.cell 5
    have u6 : w3.cell? ⟨X, 6, none⟩ = some (.int .i64 0) := VR3.cell 6
    have VF : Vals ((((((w3.setCell ⟨X, 1, none⟩ (.slice oa n cap)).setCell ⟨X, 2, none⟩ (.int .i64 rt)).setCell ⟨X, 3, none⟩ (.int .i64 pl)).setCell ⟨X, 4, none⟩ (.int .i64 tr)).setCell ⟨X, 5, none⟩ (.int .i64 du)).setCell ⟨X, 6, none⟩ (.int .i64 st)) X 29 #[.int .i64 1, .slice oa n cap, .int .i64 rt, .int .i64 pl, .int .i64 tr, .int .i64 du, .int .i64 st, .slice none 0 0, .int .i64 0, .int .i64 0, .slice none 0 0] := by
      have := (((((VR3.set 1 (.slice oa n cap)).set 2 (.int .i64 rt)).set 3 (.int .i64 pl)).set 4 (.int .i64 tr)).set 5 (.int .i64 du)).set 6 (.int .i64 st)
      simpa using this
    have VA : Vals ((((((w3.setCell ⟨X, 1, none⟩ (.slice oa n cap)).setCell ⟨X, 2, none⟩ (.int .i64 rt)).setCell ⟨X, 3, none⟩ (.int .i64 pl)).setCell ⟨X, 4, none⟩ (.int .i64 tr)).setCell ⟨X, 5, none⟩ (.int .i64 du)).setCell ⟨X, 6, none⟩ (.int .i64 st)) E 29 zRV := (((((VA3.other hXE 1 (.slice oa n cap)).other hXE 2 (.int .i64 rt)).other hXE 3 (.int .i64 pl)).other hXE 4 (.int .i64 tr)).other hXE 5 (.int .i64 du)).other hXE 6 (.int .i64 st)
    have hO1 : OnlyAt X w3 ((((((w3.setCell ⟨X, 1, none⟩ (.slice oa n cap)).setCell ⟨X, 2, none⟩ (.int .i64 rt)).setCell ⟨X, 3, none⟩ (.int .i64 pl)).setCell ⟨X, 4, none⟩ (.int .i64 tr)).setCell ⟨X, 5, none⟩ (.int .i64 du)).setCell ⟨X, 6, none⟩ (.int .i64 st)) := ((((((OnlyAt.refl X w3).set 1 (.slice oa n cap)).set 2 (.int .i64 rt)).set 3 (.int .i64 pl)).set 4 (.int .i64 tr)).set 5 (.int .i64 du)).set 6 (.int .i64 st)
    have hLs1 := hO1.lies hLs VR3 (rec_no_text _ _ _ _ _ _ _ _ _ _ _ _ _ _ _ _ _)
    have hLf : Left ((((((w3.setCell ⟨X, 1, none⟩ (.slice oa n cap)).setCell ⟨X, 2, none⟩ (.int .i64 rt)).setCell ⟨X, 3, none⟩ (.int .i64 pl)).setCell ⟨X, 4, none⟩ (.int .i64 tr)).setCell ⟨X, 5, none⟩ (.int .i64 du)).setCell ⟨X, 6, none⟩ (.int .i64 st)) A s2 := (((((hL3.past hXA.symm 1 (.slice oa n cap)).past hXA.symm 2 (.int .i64 rt)).past hXA.symm 3 (.int .i64 pl)).past hXA.symm 4 (.int .i64 tr)).past hXA.symm 5 (.int .i64 du)).past hXA.symm 6 (.int .i64 st)
    have hBt : But A w ((((((w3.setCell ⟨X, 1, none⟩ (.slice oa n cap)).setCell ⟨X, 2, none⟩ (.int .i64 rt)).setCell ⟨X, 3, none⟩ (.int .i64 pl)).setCell ⟨X, 4, none⟩ (.int .i64 tr)).setCell ⟨X, 5, none⟩ (.int .i64 du)).setCell ⟨X, 6, none⟩ (.int .i64 st)) := (((((C3.past (by omega) 1 (.slice oa n cap)).past (by omega) 2 (.int .i64 rt)).past (by omega) 3 (.int .i64 pl)).past (by omega) 4 (.int .i64 tr)).past (by omega) 5 (.int .i64 du)).past (by omega) 6 (.int .i64 st)
    go_upto_region 9 with fail
    clear f1 f2 f3 f4 f5 f6 u1 u2 u3 u4 u5 u6 VR3 VA3 hO1 hLs hL3 C3
    generalize ((((((w3.setCell ⟨X, 1, none⟩ (.slice oa n cap)).setCell ⟨X, 2, none⟩ (.int .i64 rt)).setCell ⟨X, 3, none⟩ (.int .i64 pl)).setCell ⟨X, 4, none⟩ (.int .i64 tr)).setCell ⟨X, 5, none⟩ (.int .i64 du)).setCell ⟨X, 6, none⟩ (.int .i64 st)) = W9 at *
    have hR : RAt W9 oa n cap none 0 0 none 0 0 (⟨1, ⟨l, rt, pl, tr, du, st⟩, [], 0, 0, []⟩ : Rc) := ⟨hLs1, Ls.nil _ _ _, Ms.nil _ _ _, by omega, by omega, by omega⟩
    clear hLs1
    have y0 : W9.cell? ⟨X, 0, none⟩ = some (.int .i64 1) := VF.cell 0
    have y1 : W9.cell? ⟨X, 1, none⟩ = some (.slice oa n cap) := VF.cell 1
    have y2 : W9.cell? ⟨X, 2, none⟩ = some (.int .i64 rt) := VF.cell 2
    have y3 : W9.cell? ⟨X, 3, none⟩ = some (.int .i64 pl) := VF.cell 3
    have y4 : W9.cell? ⟨X, 4, none⟩ = some (.int .i64 tr) := VF.cell 4
    have y5 : W9.cell? ⟨X, 5, none⟩ = some (.int .i64 du) := VF.cell 5
    have y6 : W9.cell? ⟨X, 6, none⟩ = some (.int .i64 st) := VF.cell 6
    have y7 : W9.cell? ⟨X, 7, none⟩ = some (.slice none 0 0) := VF.cell 7
    have y8 : W9.cell? ⟨X, 8, none⟩ = some (.int .i64 0) := VF.cell 8
    have y9 : W9.cell? ⟨X, 9, none⟩ = some (.int .i64 0) := VF.cell 9
    have y10 : W9.cell? ⟨X, 10, none⟩ = some (.slice none 0 0) := VF.cell 10
    have z0 : W9.cell? ⟨E, 0, none⟩ = some (.int .i64 0) := VA.cell 0
    have z1 : W9.cell? ⟨E, 1, none⟩ = some (.slice none 0 0) := VA.cell 1
    have z2 : W9.cell? ⟨E, 2, none⟩ = some (.int .i64 0) := VA.cell 2
    have z3 : W9.cell? ⟨E, 3, none⟩ = some (.int .i64 0) := VA.cell 3
    have z4 : W9.cell? ⟨E, 4, none⟩ = some (.int .i64 0) := VA.cell 4
    have z5 : W9.cell? ⟨E, 5, none⟩ = some (.int .i64 0) := VA.cell 5
    have z6 : W9.cell? ⟨E, 6, none⟩ = some (.int .i64 0) := VA.cell 6
    have z7 : W9.cell? ⟨E, 7, none⟩ = some (.slice none 0 0) := VA.cell 7
    have z8 : W9.cell? ⟨E, 8, none⟩ = some (.int .i64 0) := VA.cell 8
    have z9 : W9.cell? ⟨E, 9, none⟩ = some (.int .i64 0) := VA.cell 9
    have z10 : W9.cell? ⟨E, 10, none⟩ = some (.slice none 0 0) := VA.cell 10
    have g0 := VA.free 0
    have g1 := VA.free 1
    have g2 := VA.free 2
    have g3 := VA.free 3
    have g4 := VA.free 4
    have g5 := VA.free 5
    have g6 := VA.free 6
    have g7 := VA.free 7
    have g8 := VA.free 8
    have g9 := VA.free 9
    have g10 := VA.free 10
    have VO := VA.eleven (.int .i64 1) (.slice oa n cap) (.int .i64 rt) (.int .i64 pl) (.int .i64 tr) (.int .i64 du) (.int .i64 st) (.slice none 0 0) (.int .i64 0) (.int .i64 0) (.slice none 0 0)
    have hO := (((((((((((OnlyAt.refl E W9).set 0 (.int .i64 1)).set 1 (.slice oa n cap)).set 2 (.int .i64 rt)).set 3 (.int .i64 pl)).set 4 (.int .i64 tr)).set 5 (.int .i64 du)).set 6 (.int .i64 st)).set 7 (.slice none 0 0)).set 8 (.int .i64 0)).set 9 (.int .i64 0)).set 10 (.slice none 0 0)
    have hRR := hO.rec hR VA (rec_no_text _ _ _ _ _ _ _ _ _ _ _ _ _ _ _ _ _)
    have hLL := left_eleven hLf hAE.symm (.int .i64 1) (.slice oa n cap) (.int .i64 rt) (.int .i64 pl) (.int .i64 tr) (.int .i64 du) (.int .i64 st) (.slice none 0 0) (.int .i64 0) (.int .i64 0) (.slice none 0 0)
    have hBB := but_eleven hBt (Nat.le_of_eq hE) (.int .i64 1) (.slice oa n cap) (.int .i64 rt) (.int .i64 pl) (.int .i64 tr) (.int .i64 du) (.int .i64 st) (.slice none 0 0) (.int .i64 0) (.int .i64 0) (.slice none 0 0)
    clear VA VF hO hR hLf hBt
    go_wp2_with fail
    refine bodyPost_ret (retC9 (k := 1) (v1 := .slice oa n cap) (d := ⟨[], rt, pl, tr, du, st⟩) (v2 := .slice none 0 0) (f := 0) (t := 0) (v3 := .slice none 0 0) rfl rfl VO) rfl ?_
    rw [hQ.out]
    exact ⟨⟨_, _, _, _, _, _, _, _, _, rfl, hRR⟩, hLL, hBB⟩
  · by_cases q2 : k = 2
    · subst q2
      have hQ := Lib.hid (R2.out rfl)
      clear R1 R2 R3 R0 HD HH
      generalize labsR s1 = y at *
      obtain ⟨l, s2⟩ := y
      dsimp only at *
      go_wp2_with fail
      refine (HL _ hL2).mono ?_
      rintro e w3 ⟨⟨oa, n, cap, rfl, hLs, hn, _⟩, hL3, B3⟩
      have VA3 := B3.vals V2 hAE
      have VR3 := B3.vals VR hXA
      have C3 := C2.trans B3
      clear V2 VR C2 B3 hL2 x0 HL
      have f7 := VR3.free 7
      have u7 : w3.cell? ⟨X, 7, none⟩ = some (.slice none 0 0) := VR3.cell 7
      have VF : Vals (w3.setCell ⟨X, 7, none⟩ (.slice oa n cap)) X 29 #[.int .i64 2, .slice none 0 0, .int .i64 0, .int .i64 0, .int .i64 0, .int .i64 0, .int .i64 0, .slice oa n cap, .int .i64 0, .int .i64 0, .slice none 0 0] := by
        have := VR3.set 7 (.slice oa n cap)
        simpa using this
      have VA : Vals (w3.setCell ⟨X, 7, none⟩ (.slice oa n cap)) E 29 zRV := VA3.other hXE 7 (.slice oa n cap)
      have hO1 : OnlyAt X w3 (w3.setCell ⟨X, 7, none⟩ (.slice oa n cap)) := (OnlyAt.refl X w3).set 7 (.slice oa n cap)
      have hLs1 := hO1.lies hLs VR3 (rec_no_text _ _ _ _ _ _ _ _ _ _ _ _ _ _ _ _ _)
      have hLf : Left (w3.setCell ⟨X, 7, none⟩ (.slice oa n cap)) A s2 := hL3.past hXA.symm 7 (.slice oa n cap)
      have hBt : But A w (w3.setCell ⟨X, 7, none⟩ (.slice oa n cap)) := C3.past (by omega) 7 (.slice oa n cap)
      go_upto_region 9 with fail
      clear f7 u7 VR3 VA3 hO1 hLs hL3 C3
      generalize (w3.setCell ⟨X, 7, none⟩ (.slice oa n cap)) = W9 at *
      have hR : RAt W9 none 0 0 oa n cap none 0 0 (⟨2, zD, l, 0, 0, []⟩ : Rc) := ⟨Ls.nil _ _ _, hLs1, Ms.nil _ _ _, by omega, by omega, by omega⟩
      clear hLs1
      have y0 : W9.cell? ⟨X, 0, none⟩ = some (.int .i64 2) := VF.cell 0
      have y1 : W9.cell? ⟨X, 1, none⟩ = some (.slice none 0 0) := VF.cell 1
      have y2 : W9.cell? ⟨X, 2, none⟩ = some (.int .i64 0) := VF.cell 2
      have y3 : W9.cell? ⟨X, 3, none⟩ = some (.int .i64 0) := VF.cell 3
      have y4 : W9.cell? ⟨X, 4, none⟩ = some (.int .i64 0) := VF.cell 4
      have y5 : W9.cell? ⟨X, 5, none⟩ = some (.int .i64 0) := VF.cell 5
      have y6 : W9.cell? ⟨X, 6, none⟩ = some (.int .i64 0) := VF.cell 6
      have y7 : W9.cell? ⟨X, 7, none⟩ = some (.slice oa n cap) := VF.cell 7
      have y8 : W9.cell? ⟨X, 8, none⟩ = some (.int .i64 0) := VF.cell 8
      have y9 : W9.cell? ⟨X, 9, none⟩ = some (.int .i64 0) := VF.cell 9
      have y10 : W9.cell? ⟨X, 10, none⟩ = some (.slice none 0 0) := VF.cell 10
      have z0 : W9.cell? ⟨E, 0, none⟩ = some (.int .i64 0) := VA.cell 0
      have z1 : W9.cell? ⟨E, 1, none⟩ = some (.slice none 0 0) := VA.cell 1
      have z2 : W9.cell? ⟨E, 2, none⟩ = some (.int .i64 0) := VA.cell 2
      have z3 : W9.cell? ⟨E, 3, none⟩ = some (.int .i64 0) := VA.cell 3
      have z4 : W9.cell? ⟨E, 4, none⟩ = some (.int .i64 0) := VA.cell 4
      have z5 : W9.cell? ⟨E, 5, none⟩ = some (.int .i64 0) := VA.cell 5
      have z6 : W9.cell? ⟨E, 6, none⟩ = some (.int .i64 0) := VA.cell 6
      have z7 : W9.cell? ⟨E, 7, none⟩ = some (.slice none 0 0) := VA.cell 7
      have z8 : W9.cell? ⟨E, 8, none⟩ = some (.int .i64 0) := VA.cell 8
      have z9 : W9.cell? ⟨E, 9, none⟩ = some (.int .i64 0) := VA.cell 9
      have z10 : W9.cell? ⟨E, 10, none⟩ = some (.slice none 0 0) := VA.cell 10
      have g0 := VA.free 0
      have g1 := VA.free 1
      have g2 := VA.free 2
      have g3 := VA.free 3
      have g4 := VA.free 4
      have g5 := VA.free 5
      have g6 := VA.free 6
      have g7 := VA.free 7
      have g8 := VA.free 8
      have g9 := VA.free 9
      have g10 := VA.free 10
      have VO := VA.eleven (.int .i64 2) (.slice none 0 0) (.int .i64 0) (.int .i64 0) (.int .i64 0) (.int .i64 0) (.int .i64 0) (.slice oa n cap) (.int .i64 0) (.int .i64 0) (.slice none 0 0)
      have hO := (((((((((((OnlyAt.refl E W9).set 0 (.int .i64 2)).set 1 (.slice none 0 0)).set 2 (.int .i64 0)).set 3 (.int .i64 0)).set 4 (.int .i64 0)).set 5 (.int .i64 0)).set 6 (.int .i64 0)).set 7 (.slice oa n cap)).set 8 (.int .i64 0)).set 9 (.int .i64 0)).set 10 (.slice none 0 0)
      have hRR := hO.rec hR VA (rec_no_text _ _ _ _ _ _ _ _ _ _ _ _ _ _ _ _ _)
      have hLL := left_eleven hLf hAE.symm (.int .i64 2) (.slice none 0 0) (.int .i64 0) (.int .i64 0) (.int .i64 0) (.int .i64 0) (.int .i64 0) (.slice oa n cap) (.int .i64 0) (.int .i64 0) (.slice none 0 0)
      have hBB := but_eleven hBt (Nat.le_of_eq hE) (.int .i64 2) (.slice none 0 0) (.int .i64 0) (.int .i64 0) (.int .i64 0) (.int .i64 0) (.int .i64 0) (.slice oa n cap) (.int .i64 0) (.int .i64 0) (.slice none 0 0)
      clear VA VF hO hR hLf hBt
      go_wp2_with fail
      refine bodyPost_ret (retC9 (k := 2) (v1 := .slice none 0 0) (d := ⟨[], 0, 0, 0, 0, 0⟩) (v2 := .slice oa n cap) (f := 0) (t := 0) (v3 := .slice none 0 0) rfl rfl VO) rfl ?_
      rw [hQ.out]
      exact ⟨⟨_, _, _, _, _, _, _, _, _, rfl, hRR⟩, hLL, hBB⟩
    · by_cases q3 : k = 3
      · subst q3
        have hQ := Lib.hid (R3.out rfl)
        clear R1 R2 R3 R0 HD HL
        generalize hshR s1 = y at *
        obtain ⟨⟨f, t, l⟩, s2⟩ := y
        dsimp only at *
        go_wp2_with fail
        refine (HH _ hL2).mono ?_
        rintro e w3 ⟨⟨oa, n, cap, rfl, hLs, hn⟩, hL3, B3⟩
        have VA3 := B3.vals V2 hAE
        have VR3 := B3.vals VR hXA
        have C3 := C2.trans B3
        clear V2 VR C2 B3 hL2 x0 HH
        have f8 := VR3.free 8
        have f9 := VR3.free 9
        have f10 := VR3.free 10
        have u8 : w3.cell? ⟨X, 8, none⟩ = some (.int .i64 0) := VR3.cell 8
        have u9 : w3.cell? ⟨X, 9, none⟩ = some (.int .i64 0) := VR3.cell 9
        have u10 : w3.cell? ⟨X, 10, none⟩ = some (.slice none 0 0) := VR3.cell 10
        have VF : Vals (((w3.setCell ⟨X, 8, none⟩ (.int .i64 f)).setCell ⟨X, 9, none⟩ (.int .i64 t)).setCell ⟨X, 10, none⟩ (.slice oa n cap)) X 29 #[.int .i64 3, .slice none 0 0, .int .i64 0, .int .i64 0, .int .i64 0, .int .i64 0, .int .i64 0, .slice none 0 0, .int .i64 f, .int .i64 t, .slice oa n cap] := by
          have := ((VR3.set 8 (.int .i64 f)).set 9 (.int .i64 t)).set 10 (.slice oa n cap)
          simpa using this
        have VA : Vals (((w3.setCell ⟨X, 8, none⟩ (.int .i64 f)).setCell ⟨X, 9, none⟩ (.int .i64 t)).setCell ⟨X, 10, none⟩ (.slice oa n cap)) E 29 zRV := ((VA3.other hXE 8 (.int .i64 f)).other hXE 9 (.int .i64 t)).other hXE 10 (.slice oa n cap)
        have hO1 : OnlyAt X w3 (((w3.setCell ⟨X, 8, none⟩ (.int .i64 f)).setCell ⟨X, 9, none⟩ (.int .i64 t)).setCell ⟨X, 10, none⟩ (.slice oa n cap)) := (((OnlyAt.refl X w3).set 8 (.int .i64 f)).set 9 (.int .i64 t)).set 10 (.slice oa n cap)
        have hLs1 := hO1.liesM hLs VR3 (rec_no_text _ _ _ _ _ _ _ _ _ _ _ _ _ _ _ _ _)
        have hLf : Left (((w3.setCell ⟨X, 8, none⟩ (.int .i64 f)).setCell ⟨X, 9, none⟩ (.int .i64 t)).setCell ⟨X, 10, none⟩ (.slice oa n cap)) A s2 := ((hL3.past hXA.symm 8 (.int .i64 f)).past hXA.symm 9 (.int .i64 t)).past hXA.symm 10 (.slice oa n cap)
        have hBt : But A w (((w3.setCell ⟨X, 8, none⟩ (.int .i64 f)).setCell ⟨X, 9, none⟩ (.int .i64 t)).setCell ⟨X, 10, none⟩ (.slice oa n cap)) := ((C3.past (by omega) 8 (.int .i64 f)).past (by omega) 9 (.int .i64 t)).past (by omega) 10 (.slice oa n cap)
        go_upto_region 9 with fail
        clear f8 f9 f10 u8 u9 u10 VR3 VA3 hO1 hLs hL3 C3
        generalize (((w3.setCell ⟨X, 8, none⟩ (.int .i64 f)).setCell ⟨X, 9, none⟩ (.int .i64 t)).setCell ⟨X, 10, none⟩ (.slice oa n cap)) = W9 at *
        have hR : RAt W9 none 0 0 none 0 0 oa n cap (⟨3, zD, [], f, t, l⟩ : Rc) := ⟨Ls.nil _ _ _, Ls.nil _ _ _, hLs1, by omega, by omega, by omega⟩
        clear hLs1
        have y0 : W9.cell? ⟨X, 0, none⟩ = some (.int .i64 3) := VF.cell 0
        have y1 : W9.cell? ⟨X, 1, none⟩ = some (.slice none 0 0) := VF.cell 1
        have y2 : W9.cell? ⟨X, 2, none⟩ = some (.int .i64 0) := VF.cell 2
        have y3 : W9.cell? ⟨X, 3, none⟩ = some (.int .i64 0) := VF.cell 3
        have y4 : W9.cell? ⟨X, 4, none⟩ = some (.int .i64 0) := VF.cell 4
        have y5 : W9.cell? ⟨X, 5, none⟩ = some (.int .i64 0) := VF.cell 5
        have y6 : W9.cell? ⟨X, 6, none⟩ = some (.int .i64 0) := VF.cell 6
        have y7 : W9.cell? ⟨X, 7, none⟩ = some (.slice none 0 0) := VF.cell 7
        have y8 : W9.cell? ⟨X, 8, none⟩ = some (.int .i64 f) := VF.cell 8
        have y9 : W9.cell? ⟨X, 9, none⟩ = some (.int .i64 t) := VF.cell 9
        have y10 : W9.cell? ⟨X, 10, none⟩ = some (.slice oa n cap) := VF.cell 10
        have z0 : W9.cell? ⟨E, 0, none⟩ = some (.int .i64 0) := VA.cell 0
        have z1 : W9.cell? ⟨E, 1, none⟩ = some (.slice none 0 0) := VA.cell 1
        have z2 : W9.cell? ⟨E, 2, none⟩ = some (.int .i64 0) := VA.cell 2
        have z3 : W9.cell? ⟨E, 3, none⟩ = some (.int .i64 0) := VA.cell 3
        have z4 : W9.cell? ⟨E, 4, none⟩ = some (.int .i64 0) := VA.cell 4
        have z5 : W9.cell? ⟨E, 5, none⟩ = some (.int .i64 0) := VA.cell 5
        have z6 : W9.cell? ⟨E, 6, none⟩ = some (.int .i64 0) := VA.cell 6
        have z7 : W9.cell? ⟨E, 7, none⟩ = some (.slice none 0 0) := VA.cell 7
        have z8 : W9.cell? ⟨E, 8, none⟩ = some (.int .i64 0) := VA.cell 8
        have z9 : W9.cell? ⟨E, 9, none⟩ = some (.int .i64 0) := VA.cell 9
        have z10 : W9.cell? ⟨E, 10, none⟩ = some (.slice none 0 0) := VA.cell 10
        have g0 := VA.free 0
        have g1 := VA.free 1
        have g2 := VA.free 2
        have g3 := VA.free 3
        have g4 := VA.free 4
        have g5 := VA.free 5
        have g6 := VA.free 6
        have g7 := VA.free 7
        have g8 := VA.free 8
        have g9 := VA.free 9
        have g10 := VA.free 10
        have VO := VA.eleven (.int .i64 3) (.slice none 0 0) (.int .i64 0) (.int .i64 0) (.int .i64 0) (.int .i64 0) (.int .i64 0) (.slice none 0 0) (.int .i64 f) (.int .i64 t) (.slice oa n cap)
        have hO := (((((((((((OnlyAt.refl E W9).set 0 (.int .i64 3)).set 1 (.slice none 0 0)).set 2 (.int .i64 0)).set 3 (.int .i64 0)).set 4 (.int .i64 0)).set 5 (.int .i64 0)).set 6 (.int .i64 0)).set 7 (.slice none 0 0)).set 8 (.int .i64 f)).set 9 (.int .i64 t)).set 10 (.slice oa n cap)
        have hRR := hO.rec hR VA (rec_no_text _ _ _ _ _ _ _ _ _ _ _ _ _ _ _ _ _)
        have hLL := left_eleven hLf hAE.symm (.int .i64 3) (.slice none 0 0) (.int .i64 0) (.int .i64 0) (.int .i64 0) (.int .i64 0) (.int .i64 0) (.slice none 0 0) (.int .i64 f) (.int .i64 t) (.slice oa n cap)
        have hBB := but_eleven hBt (Nat.le_of_eq hE) (.int .i64 3) (.slice none 0 0) (.int .i64 0) (.int .i64 0) (.int .i64 0) (.int .i64 0) (.int .i64 0) (.slice none 0 0) (.int .i64 f) (.int .i64 t) (.slice oa n cap)
        clear VA VF hO hR hLf hBt
        go_wp2_with fail
        refine bodyPost_ret (retC9 (k := 3) (v1 := .slice none 0 0) (d := ⟨[], 0, 0, 0, 0, 0⟩) (v2 := .slice none 0 0) (f := f) (t := t) (v3 := .slice oa n cap) rfl rfl VO) rfl ?_
        rw [hQ.out]
        exact ⟨⟨_, _, _, _, _, _, _, _, _, rfl, hRR⟩, hLL, hBB⟩
      · have hQ := Lib.hid (R0.out q1 q2 q3)
        clear R1 R2 R3 R0 HD HL HH
        have e1 : ((k : Int) == 1) = false := by simp; omega
        have e2 : ((k : Int) == 2) = false := by simp; omega
        have e3 : ((k : Int) == 3) = false := by simp; omega
        go_upto_region 9 with fail
        have VA := V2
        have VF := VR
        have hLf := hL2
        have hBt := C2
        have hR : RAt w2 none 0 0 none 0 0 none 0 0 (⟨(k : Int), zD, [], 0, 0, []⟩ : Rc) := ⟨Ls.nil _ _ _, Ls.nil _ _ _, Ms.nil _ _ _, by omega, by omega, by omega⟩
        clear V2 VR C2 hL2 x0
        have y0 : w2.cell? ⟨X, 0, none⟩ = some (.int .i64 (k : Int)) := VF.cell 0
        have y1 : w2.cell? ⟨X, 1, none⟩ = some (.slice none 0 0) := VF.cell 1
        have y2 : w2.cell? ⟨X, 2, none⟩ = some (.int .i64 0) := VF.cell 2
        have y3 : w2.cell? ⟨X, 3, none⟩ = some (.int .i64 0) := VF.cell 3
        have y4 : w2.cell? ⟨X, 4, none⟩ = some (.int .i64 0) := VF.cell 4
        have y5 : w2.cell? ⟨X, 5, none⟩ = some (.int .i64 0) := VF.cell 5
        have y6 : w2.cell? ⟨X, 6, none⟩ = some (.int .i64 0) := VF.cell 6
        have y7 : w2.cell? ⟨X, 7, none⟩ = some (.slice none 0 0) := VF.cell 7
        have y8 : w2.cell? ⟨X, 8, none⟩ = some (.int .i64 0) := VF.cell 8
        have y9 : w2.cell? ⟨X, 9, none⟩ = some (.int .i64 0) := VF.cell 9
        have y10 : w2.cell? ⟨X, 10, none⟩ = some (.slice none 0 0) := VF.cell 10
        have z0 : w2.cell? ⟨E, 0, none⟩ = some (.int .i64 0) := VA.cell 0
        have z1 : w2.cell? ⟨E, 1, none⟩ = some (.slice none 0 0) := VA.cell 1
        have z2 : w2.cell? ⟨E, 2, none⟩ = some (.int .i64 0) := VA.cell 2
        have z3 : w2.cell? ⟨E, 3, none⟩ = some (.int .i64 0) := VA.cell 3
        have z4 : w2.cell? ⟨E, 4, none⟩ = some (.int .i64 0) := VA.cell 4
        have z5 : w2.cell? ⟨E, 5, none⟩ = some (.int .i64 0) := VA.cell 5
        have z6 : w2.cell? ⟨E, 6, none⟩ = some (.int .i64 0) := VA.cell 6
        have z7 : w2.cell? ⟨E, 7, none⟩ = some (.slice none 0 0) := VA.cell 7
        have z8 : w2.cell? ⟨E, 8, none⟩ = some (.int .i64 0) := VA.cell 8
        have z9 : w2.cell? ⟨E, 9, none⟩ = some (.int .i64 0) := VA.cell 9
        have z10 : w2.cell? ⟨E, 10, none⟩ = some (.slice none 0 0) := VA.cell 10
        have g0 := VA.free 0
        have g1 := VA.free 1
        have g2 := VA.free 2
        have g3 := VA.free 3
        have g4 := VA.free 4
        have g5 := VA.free 5
        have g6 := VA.free 6
        have g7 := VA.free 7
        have g8 := VA.free 8
        have g9 := VA.free 9
        have g10 := VA.free 10
        have VO := VA.eleven (.int .i64 (k : Int)) (.slice none 0 0) (.int .i64 0) (.int .i64 0) (.int .i64 0) (.int .i64 0) (.int .i64 0) (.slice none 0 0) (.int .i64 0) (.int .i64 0) (.slice none 0 0)
        have hO := (((((((((((OnlyAt.refl E w2).set 0 (.int .i64 (k : Int))).set 1 (.slice none 0 0)).set 2 (.int .i64 0)).set 3 (.int .i64 0)).set 4 (.int .i64 0)).set 5 (.int .i64 0)).set 6 (.int .i64 0)).set 7 (.slice none 0 0)).set 8 (.int .i64 0)).set 9 (.int .i64 0)).set 10 (.slice none 0 0)
        have hRR := hO.rec hR VA (rec_no_text _ _ _ _ _ _ _ _ _ _ _ _ _ _ _ _ _)
        have hLL := left_eleven hLf hAE.symm (.int .i64 (k : Int)) (.slice none 0 0) (.int .i64 0) (.int .i64 0) (.int .i64 0) (.int .i64 0) (.int .i64 0) (.slice none 0 0) (.int .i64 0) (.int .i64 0) (.slice none 0 0)
        have hBB := but_eleven hBt (Nat.le_of_eq hE) (.int .i64 (k : Int)) (.slice none 0 0) (.int .i64 0) (.int .i64 0) (.int .i64 0) (.int .i64 0) (.int .i64 0) (.slice none 0 0) (.int .i64 0) (.int .i64 0) (.slice none 0 0)
        clear VA VF hO hR hLf hBt
        go_wp2_with fail
        refine bodyPost_ret (retC9 (k := (k : Int)) (v1 := .slice none 0 0) (d := ⟨[], 0, 0, 0, 0, 0⟩) (v2 := .slice none 0 0) (f := 0) (t := 0) (v3 := .slice none 0 0) rfl rfl VO) rfl ?_
        rw [hQ.out]
        exact ⟨⟨_, _, _, _, _, _, _, _, _, rfl, hRR⟩, hLL, hBB⟩
end Go.Proofs.Ytopjiokbmpghjaa
