/-
  The program's own: a duty, and a hush, of what is left of a text.
-/
import Derived.Test.YtopjiokbmpghjaaCodI
import Derived.Test.YtopjiokbmpghjaaRcdI
namespace Go.Proofs.Ytopjiokbmpghjaa
open Go.RowKit Go.Shelf
set_option linter.unusedVariables false
set_option linter.unusedSimpArgs false

theorem Vals.six6 {w : World} {A : Nat} {T : TypeId} {x0 x1 x2 x3 x4 x5 : Value} (h : Vals w A T #[x0, x1, x2, x3, x4, x5]) (y0 y1 y2 y3 y4 y5 : Value) :
    Vals ((((((w.setCell ⟨A, 0, none⟩ y0).setCell ⟨A, 1, none⟩ y1).setCell ⟨A, 2, none⟩ y2).setCell ⟨A, 3, none⟩ y3).setCell ⟨A, 4, none⟩ y4).setCell ⟨A, 5, none⟩ y5) A T #[y0, y1, y2, y3, y4, y5] := by
  have := (((((h.set 0 y0).set 1 y1).set 2 y2).set 3 y3).set 4 y4).set 5 y5
  simpa using this
theorem Vals.three3 {w : World} {A : Nat} {T : TypeId} {x0 x1 x2 : Value} (h : Vals w A T #[x0, x1, x2]) (y0 y1 y2 : Value) :
    Vals (((w.setCell ⟨A, 0, none⟩ y0).setCell ⟨A, 1, none⟩ y1).setCell ⟨A, 2, none⟩ y2) A T #[y0, y1, y2] := by
  have := ((h.set 0 y0).set 1 y1).set 2 y2
  simpa using this
theorem retD6 {fn : Func} {p : Tmp} (h : fn.results = #[.cell p 24]) {tmps : Array Value} {w : World} {A : Nat} {v0 v1 v2 v3 v4 v5 : Value} (hp : tmps.getD p undef = .pointer (some ⟨A, 0, none⟩))
    (hV : Vals w A 24 #[v0, v1, v2, v3, v4, v5]) : (results fn tmps).run Try.prog w = .ok (.agg #[v0, v1, v2, v3, v4, v5]) w := results_cell_row h tmps w A 24 #[v0, v1, v2, v3, v4, v5] _ _ hp hV Try.underlying24 rfl (by kernel_rfl)
theorem retH3 {fn : Func} {p : Tmp} (h : fn.results = #[.cell p 27]) {tmps : Array Value} {w : World} {A : Nat} {v0 v1 v2 : Value} (hp : tmps.getD p undef = .pointer (some ⟨A, 0, none⟩))
    (hV : Vals w A 27 #[v0, v1, v2]) : (results fn tmps).run Try.prog w = .ok (.agg #[v0, v1, v2]) w := results_cell_row h tmps w A 27 #[v0, v1, v2] _ _ hp hV Try.underlying27 rfl (by kernel_rfl)
theorem duty_no_text (oa : Option Addr) (n c : Nat) (rt pl tr du st : Int) : ∀ (i : Nat) (s : ByteArray), (#[Value.slice oa n c, .int .i64 rt, .int .i64 pl, .int .i64 tr, .int .i64 du, .int .i64 st] : Array Value)[i]? ≠ some (Value.string s) := by
  intro i s h
  have hi : i < 6 := (Array.getElem?_eq_some_iff.1 h).1
  rcases (by omega : i = 0 ∨ i = 1 ∨ i = 2 ∨ i = 3 ∨ i = 4 ∨ i = 5) with rfl | rfl | rfl | rfl | rfl | rfl <;> simp at h
theorem hush_no_text (f t : Int) (oa : Option Addr) (n c : Nat) : ∀ (i : Nat) (s : ByteArray), (#[Value.int .i64 f, .int .i64 t, .slice oa n c] : Array Value)[i]? ≠ some (Value.string s) := by
  intro i s h
  have hi : i < 3 := (Array.getElem?_eq_some_iff.1 h).1
  rcases (by omega : i = 0 ∨ i = 1 ∨ i = 2) with rfl | rfl | rfl <;> simp at h
theorem But.past {A E : Nat} {a w : World} (h : But A a w) (hE : a.heap.size ≤ E) (i : Nat) (v : Value) : But A a (w.setCell ⟨E, i, none⟩ v) :=
  ⟨h.os, h.tape, h.output, by have := h.size; simp only [World.setCell, Array.size_modify]; exact this, fun k hk hl => (Below.heap_setCell _ _ _ _ (by show k ≠ E; omega)).trans (h.block k hk hl)⟩
theorem Left.past {A E : Nat} {w : World} {s : SR} (h : Left w A s) (hne : A ≠ E) (i : Nat) (v : Value) : Left (w.setCell ⟨E, i, none⟩ v) A s := Vals.other h hne i v
set_option maxRecDepth 100000 in
set_option maxHeartbeats 6400000 in
theorem cduty_any (A : Nat) (s : SR) (hs : s.1.length ≤ 1000) (w : World) (h : Left w A s) :
    Calls Try.prog 54 #[.pointer (some ⟨A, 0, none⟩)] w fun e w' => (∃ oa n cap, e = .returned (aggD oa n cap (dutR s).1) ∧ Ls w' oa n cap (dutR s).1.ls ∧ n ≤ 255) ∧ Left w' A (dutR s).2 ∧ But A w w' := by
  have hA := h.lt
  have k1 := num_len 1 s
  have k2 := num_len 1 (num 1 s).2
  have k3 := num_len 1 (num 1 (num 1 s).2).2
  have k4 := num_len 1 (num 1 (num 1 (num 1 s).2).2).2
  have k5 := num_len 6 (num 1 (num 1 (num 1 (num 1 s).2).2).2).2
  have H1 := fun w h => number_one A s hs w h
  have H2 := fun w h => number_one A (num 1 s).2 (by omega) w h
  have H3 := fun w h => number_one A (num 1 (num 1 s).2).2 (by omega) w h
  have H4 := fun w h => number_one A (num 1 (num 1 (num 1 s).2).2).2 (by omega) w h
  have H5 := fun w h => number_six A (num 1 (num 1 (num 1 (num 1 s).2).2).2).2 (by omega) w h
  have H6 := fun w h => clabels_any A (num 6 (num 1 (num 1 (num 1 (num 1 s).2).2).2).2).2 (by omega) w h
  obtain ⟨x, hx⟩ : ∃ x, labsR (num 6 (num 1 (num 1 (num 1 (num 1 s).2).2).2).2).2 = x := ⟨_, rfl⟩
  obtain ⟨e, he⟩ : ∃ e, num 6 (num 1 (num 1 (num 1 (num 1 s).2).2).2).2 = e := ⟨_, rfl⟩
  obtain ⟨d, hd⟩ : ∃ d, num 1 (num 1 (num 1 (num 1 s).2).2).2 = d := ⟨_, rfl⟩
  obtain ⟨c, hc⟩ : ∃ c, num 1 (num 1 (num 1 s).2).2 = c := ⟨_, rfl⟩
  obtain ⟨b, hb⟩ : ∃ b, num 1 (num 1 s).2 = b := ⟨_, rfl⟩
  obtain ⟨a, ha⟩ : ∃ a, num 1 s = a := ⟨_, rfl⟩
  have hD : dutR s = (⟨x.1, a.1, b.1, c.1, e.1, d.1⟩, x.2) := by rw [← hx, ← ha, ← hb, ← hc, ← he, ← hd]; rfl
  rw [hD]
  clear hD k1 k2 k3 k4 k5
  rw [hx] at H6
  rw [he] at H5 H6
  rw [hd] at H4 H5
  rw [hc] at H3 H4
  rw [hb] at H2 H3
  rw [ha] at H1 H2
  clear hx he hd hc hb ha
  obtain ⟨a, s1⟩ := a
  obtain ⟨b, s2⟩ := b
  obtain ⟨c, s3⟩ := c
  obtain ⟨d, s4⟩ := d
  obtain ⟨e, s5⟩ := e
  obtain ⟨x, s6⟩ := x
  dsimp only at *
  have VE := Vals.new w 24 #[.slice none 0 0, .int .i64 0, .int .i64 0, .int .i64 0, .int .i64 0, .int .i64 0]
  have hL0 : Left (w.alloc (.cells #[.slice none 0 0, .int .i64 0, .int .i64 0, .int .i64 0, .int .i64 0, .int .i64 0] 24)) A s := Vals.alloc (w := w) h _
  have B0 := (But.refl A w).alloc (.cells #[.slice none 0 0, .int .i64 0, .int .i64 0, .int .i64 0, .int .i64 0, .int .i64 0] 24)
  clear h
  go_enter Try.func54, Try.ntmps54
  go_upto_region 1 with fail
  generalize w.alloc _ = W at *
  have hL0' := hL0.drew
  have B0' := B0.drew
  have VE' : Vals W.drew w.heap.size 24 #[.slice none 0 0, .int .i64 0, .int .i64 0, .int .i64 0, .int .i64 0, .int .i64 0] := VE
  generalize hE : w.heap.size = E at *
  have hAE : E ≠ A := by omega
  clear hL0 B0 VE
  go_region_with (first
    | (go_at_call 55; refine (H6 _ hL5).mono ?_; rintro q w6 ⟨⟨oa, n, cap, rfl, hLs, hn, _⟩, hL6, B6⟩; have V6 := B6.vals V5 hAE; have C6 := C5.trans B6; have g0 := V6.free 0; have g1 := V6.free 1; have g2 := V6.free 2; have g3 := V6.free 3; have g4 := V6.free 4; have g5 := V6.free 5; have u0 : w6.cell? ⟨E, 0, none⟩ = some (.slice none 0 0) := V6.cell 0; have u1 : w6.cell? ⟨E, 1, none⟩ = some (.int .i64 0) := V6.cell 1; have u2 : w6.cell? ⟨E, 2, none⟩ = some (.int .i64 0) := V6.cell 2; have u3 : w6.cell? ⟨E, 3, none⟩ = some (.int .i64 0) := V6.cell 3; have u4 : w6.cell? ⟨E, 4, none⟩ = some (.int .i64 0) := V6.cell 4; have u5 : w6.cell? ⟨E, 5, none⟩ = some (.int .i64 0) := V6.cell 5)
    | (go_at_call 53; refine (H5 _ hL4).mono ?_; rintro q w5 ⟨rfl, hL5, B5⟩; have V5 := B5.vals V4 hAE; have C5 := C4.trans B5)
    | (go_at_call 53; refine (H4 _ hL3).mono ?_; rintro q w4 ⟨rfl, hL4, B4⟩; have V4 := B4.vals V3 hAE; have C4 := C3.trans B4)
    | (go_at_call 53; refine (H3 _ hL2).mono ?_; rintro q w3 ⟨rfl, hL3, B3⟩; have V3 := B3.vals V2 hAE; have C3 := C2.trans B3)
    | (go_at_call 53; refine (H2 _ hL1).mono ?_; rintro q w2 ⟨rfl, hL2, B2⟩; have V2 := B2.vals V1 hAE; have C2 := C1.trans B2)
    | (go_at_call 53; refine (H1 _ hL0').mono ?_; rintro q w1 ⟨rfl, hL1, B1⟩; have V1 := B1.vals VE' hAE; have C1 := B0'.trans B1))
  all_goals
    have VF := V6.six6 (.slice oa n cap) (.int .i64 (a : Int)) (.int .i64 (b : Int)) (.int .i64 (c : Int)) (.int .i64 (e : Int)) (.int .i64 (d : Int))
    have hO := ((((((OnlyAt.refl E w6).set 0 (.slice oa n cap)).set 1 (.int .i64 (a : Int))).set 2 (.int .i64 (b : Int))).set 3 (.int .i64 (c : Int))).set 4 (.int .i64 (e : Int))).set 5 (.int .i64 (d : Int))
    have hLL := hO.lies hLs V6 (duty_no_text _ _ _ _ _ _ _ _)
    have hL7 := (((((hL6.past hAE.symm 0 (.slice oa n cap)).past hAE.symm 1 (.int .i64 (a : Int))).past hAE.symm 2 (.int .i64 (b : Int))).past hAE.symm 3 (.int .i64 (c : Int))).past hAE.symm 4 (.int .i64 (e : Int))).past hAE.symm 5 (.int .i64 (d : Int))
    have C7 := (((((C6.past (Nat.le_of_eq hE) 0 (.slice oa n cap)).past (Nat.le_of_eq hE) 1 (.int .i64 (a : Int))).past (Nat.le_of_eq hE) 2 (.int .i64 (b : Int))).past (Nat.le_of_eq hE) 3 (.int .i64 (c : Int))).past (Nat.le_of_eq hE) 4 (.int .i64 (e : Int))).past (Nat.le_of_eq hE) 5 (.int .i64 (d : Int))
    clear g0 g1 g2 g3 g4 g5 u0 u1 u2 u3 u4 u5 V6 hO hLs
    go_wp2_with fail
    refine bodyPost_ret (retD6 rfl rfl VF) rfl ?_
    exact ⟨⟨oa, n, cap, rfl, hLL, hn⟩, hL7, C7⟩
set_option maxRecDepth 100000 in
set_option maxHeartbeats 6400000 in
theorem chush_any (A : Nat) (s : SR) (hs : s.1.length ≤ 1000) (w : World) (h : Left w A s) :
    Calls Try.prog 56 #[.pointer (some ⟨A, 0, none⟩)] w fun e w' => (∃ oa n cap, e = .returned (.agg #[.int .i64 (hshR s).1.1, .int .i64 (hshR s).1.2.1, .slice oa n cap]) ∧ Ms w' oa n cap (hshR s).1.2.2 ∧ n ≤ 255) ∧ Left w' A (hshR s).2 ∧ But A w w' := by
  have hA := h.lt
  have k1 := num_len 6 s
  have k2 := num_len 6 (num 6 s).2
  have H1 := fun w h => number_six A s hs w h
  have H2 := fun w h => number_six A (num 6 s).2 (by omega) w h
  have H6 := fun w h => cmatchers_any A (num 6 (num 6 s).2).2 (by omega) w h
  obtain ⟨x, hx⟩ : ∃ x, matsR (num 6 (num 6 s).2).2 = x := ⟨_, rfl⟩
  obtain ⟨b, hb⟩ : ∃ b, num 6 (num 6 s).2 = b := ⟨_, rfl⟩
  obtain ⟨a, ha⟩ : ∃ a, num 6 s = a := ⟨_, rfl⟩
  have hD : hshR s = ((((a.1 : Nat) : Int), ((b.1 : Nat) : Int), x.1), x.2) := by rw [← hx, ← ha, ← hb]; rfl
  rw [hD]
  clear hD k1 k2
  rw [hx] at H6
  rw [hb] at H2 H6
  rw [ha] at H1 H2
  clear hx hb ha
  obtain ⟨a, s1⟩ := a
  obtain ⟨b, s2⟩ := b
  obtain ⟨x, s6⟩ := x
  dsimp only at *
  have VE := Vals.new w 27 #[.int .i64 0, .int .i64 0, .slice none 0 0]
  have hL0 : Left (w.alloc (.cells #[.int .i64 0, .int .i64 0, .slice none 0 0] 27)) A s := Vals.alloc (w := w) h _
  have B0 := (But.refl A w).alloc (.cells #[.int .i64 0, .int .i64 0, .slice none 0 0] 27)
  clear h
  go_enter Try.func56, Try.ntmps56
  go_upto_region 1 with fail
  generalize w.alloc _ = W at *
  have hL0' := hL0.drew
  have B0' := B0.drew
  have VE' : Vals W.drew w.heap.size 27 #[.int .i64 0, .int .i64 0, .slice none 0 0] := VE
  generalize hE : w.heap.size = E at *
  have hAE : E ≠ A := by omega
  clear hL0 B0 VE
  go_region_with (first
    | (go_at_call 68; refine (H6 _ hL2).mono ?_; rintro q w6 ⟨⟨oa, n, cap, rfl, hLs, hn, _⟩, hL6, B6⟩; have V6 := B6.vals V2 hAE; have C6 := C2.trans B6; have g0 := V6.free 0; have g1 := V6.free 1; have g2 := V6.free 2; have u0 : w6.cell? ⟨E, 0, none⟩ = some (.int .i64 0) := V6.cell 0; have u1 : w6.cell? ⟨E, 1, none⟩ = some (.int .i64 0) := V6.cell 1; have u2 : w6.cell? ⟨E, 2, none⟩ = some (.slice none 0 0) := V6.cell 2)
    | (go_at_call 53; refine (H2 _ hL1).mono ?_; rintro q w2 ⟨rfl, hL2, B2⟩; have V2 := B2.vals V1 hAE; have C2 := C1.trans B2)
    | (go_at_call 53; refine (H1 _ hL0').mono ?_; rintro q w1 ⟨rfl, hL1, B1⟩; have V1 := B1.vals VE' hAE; have C1 := B0'.trans B1))
  all_goals
    have VF := V6.three3 (.int .i64 (a : Int)) (.int .i64 (b : Int)) (.slice oa n cap)
    have hO := (((OnlyAt.refl E w6).set 0 (.int .i64 (a : Int))).set 1 (.int .i64 (b : Int))).set 2 (.slice oa n cap)
    have hLL := hO.liesM hLs V6 (hush_no_text _ _ _ _ _)
    have hL7 := ((hL6.past hAE.symm 0 (.int .i64 (a : Int))).past hAE.symm 1 (.int .i64 (b : Int))).past hAE.symm 2 (.slice oa n cap)
    have C7 := ((C6.past (Nat.le_of_eq hE) 0 (.int .i64 (a : Int))).past (Nat.le_of_eq hE) 1 (.int .i64 (b : Int))).past (Nat.le_of_eq hE) 2 (.slice oa n cap)
    clear g0 g1 g2 u0 u1 u2 V6 hO hLs
    go_wp2_with fail
    refine bodyPost_ret (retH3 rfl rfl VF) rfl ?_
    exact ⟨⟨oa, n, cap, rfl, hLL, hn⟩, hL7, C7⟩
end Go.Proofs.Ytopjiokbmpghjaa
