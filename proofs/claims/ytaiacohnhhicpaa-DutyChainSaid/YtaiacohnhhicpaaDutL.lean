/-
  The law's own: a duty cut short; a config of one receiver.
-/
import Derived.Test.YtaiacohnhhicpaaDutA
namespace Go.Proofs.Ytaiacohnhhicpaa
open Go.RowKit Go.Shelf
set_option linter.unusedVariables false

theorem retD1 {fn : Func} {p : Tmp} (h : fn.results = #[.cell p 24]) {tmps : Array Value} {w : World} {A : Nat} {v : Value} {d : D6} (hp : tmps.getD p undef = .pointer (some ⟨A, 0, none⟩))
    (hV : Vals w A 24 (dV v d)) : (results fn tmps).run Try.prog w = .ok (.agg (dV v d)) w := results_cell_row h tmps w A 24 (dV v d) _ _ hp hV Try.underlying24 rfl (by kernel_rfl)
/-- a duty's labels cut short -/
def cutD (d : D6) : D6 := { d with ls := d.ls.take 5 }
theorem Vals.six {w : World} {A : Nat} {T : TypeId} {x0 x1 x2 x3 x4 x5 : Value} (h : Vals w A T #[x0, x1, x2, x3, x4, x5]) (y0 y1 y2 y3 y4 y5 : Value) :
    Vals ((((((w.setCell ⟨A, 0, none⟩ y0).setCell ⟨A, 1, none⟩ y1).setCell ⟨A, 2, none⟩ y2).setCell ⟨A, 3, none⟩ y3).setCell ⟨A, 4, none⟩ y4).setCell ⟨A, 5, none⟩ y5) A T #[y0, y1, y2, y3, y4, y5] := by
  have := (((((h.set 0 y0).set 1 y1).set 2 y2).set 3 y3).set 4 y4).set 5 y5
  simpa using this
theorem Vals.six_other {w : World} {B : Nat} {T : TypeId} {xs : Array Value} (h : Vals w B T xs) {A : Nat} (hne : B ≠ A) (y0 y1 y2 y3 y4 y5 : Value) :
    Vals ((((((w.setCell ⟨A, 0, none⟩ y0).setCell ⟨A, 1, none⟩ y1).setCell ⟨A, 2, none⟩ y2).setCell ⟨A, 3, none⟩ y3).setCell ⟨A, 4, none⟩ y4).setCell ⟨A, 5, none⟩ y5) B T xs :=
  (((((h.other hne 0 y0).other hne 1 y1).other hne 2 y2).other hne 3 y3).other hne 4 y4).other hne 5 y5
theorem Vals.four_other {w : World} {B : Nat} {T : TypeId} {xs : Array Value} (h : Vals w B T xs) {A : Nat} (hne : B ≠ A) (y0 y1 y2 y3 : Value) :
    Vals ((((w.setCell ⟨A, 0, none⟩ y0).setCell ⟨A, 1, none⟩ y1).setCell ⟨A, 2, none⟩ y2).setCell ⟨A, 3, none⟩ y3) B T xs :=
  (((h.other hne 0 y0).other hne 1 y1).other hne 2 y2).other hne 3 y3
theorem below_six {B : Nat} {a w : World} (h : Below B a w) {A : Nat} (hA : B ≤ A) (y0 y1 y2 y3 y4 y5 : Value) :
    Below B a ((((((w.setCell ⟨A, 0, none⟩ y0).setCell ⟨A, 1, none⟩ y1).setCell ⟨A, 2, none⟩ y2).setCell ⟨A, 3, none⟩ y3).setCell ⟨A, 4, none⟩ y4).setCell ⟨A, 5, none⟩ y5) :=
  (((((h.setCell (p := ⟨A, 0, none⟩) hA y0).setCell (p := ⟨A, 1, none⟩) hA y1).setCell (p := ⟨A, 2, none⟩) hA y2).setCell (p := ⟨A, 3, none⟩) hA y3).setCell (p := ⟨A, 4, none⟩) hA y4).setCell (p := ⟨A, 5, none⟩) hA y5
set_option maxRecDepth 100000 in
set_option maxHeartbeats 1600000 in
theorem cut_any (oa : Option Addr) (n cap : Nat) (d : D6) (w : World) (h : Ls w oa n cap d.ls) :
    Calls Try.prog 7 #[aggD oa n cap d] w fun e w' => e = .returned (aggD oa (min n 5) cap (cutD d)) ∧ Below w.heap.size w w' := by
  obtain ⟨ls, rt, pl, tr, du, st⟩ := d
  dsimp only [cutD, aggD, dV] at *
  have V1 : Vals (w.alloc (.cells #[.slice oa n cap, .int .i64 rt, .int .i64 pl, .int .i64 tr, .int .i64 du, .int .i64 st] 24)) w.heap.size 24 #[.slice oa n cap, .int .i64 rt, .int .i64 pl, .int .i64 tr, .int .i64 du, .int .i64 st] := Vals.new w _ _
  have VA := V1.keep (below_alloc _ (.cells #[.slice none 0 0, .int .i64 0, .int .i64 0, .int .i64 0, .int .i64 0, .int .i64 0] 24)) (Nat.le_refl _)
  have VB := Vals.new (w.alloc (.cells #[.slice oa n cap, .int .i64 rt, .int .i64 pl, .int .i64 tr, .int .i64 du, .int .i64 st] 24)) 24 #[.slice none 0 0, .int .i64 0, .int .i64 0, .int .i64 0, .int .i64 0, .int .i64 0]
  have B1 := below_alloc w (.cells #[.slice oa n cap, .int .i64 rt, .int .i64 pl, .int .i64 tr, .int .i64 du, .int .i64 st] 24)
  have B9 := B1.alloc B1.size (.cells #[.slice none 0 0, .int .i64 0, .int .i64 0, .int .i64 0, .int .i64 0, .int .i64 0] 24)
  have HS := fun w (h : Ls w oa n cap ls) => some_any oa n cap ls w h
  have h2 := h.below B9 (Nat.le_refl _)
  go_enter Try.func7, Try.ntmps7
  go_upto_region 1 with fail
  rw [World.size_alloc] at VB
  generalize hA : w.heap.size = A at *
  have hAw : w.heap.size ≤ A := by omega
  clear V1 B1 h
  generalize (w.alloc (.cells #[.slice oa n cap, .int .i64 rt, .int .i64 pl, .int .i64 tr, .int .i64 du, .int .i64 st] 24)).alloc (.cells #[.slice none 0 0, .int .i64 0, .int .i64 0, .int .i64 0, .int .i64 0, .int .i64 0] 24) = wr at *
  have y0 : wr.cell? ⟨A, 0, none⟩ = some (.slice oa n cap) := VA.cell 0
  have g0 := VA.free 0
  have HS2 := HS wr h2
  clear HS h2
  go_wp2_with fail
  refine HS2.mono ?_
  rintro e w2 ⟨rfl, rfl⟩
  go_upto_region 2 with fail
  have VA1 : Vals (wr.setCell ⟨A, 0, none⟩ (.slice oa (min n 5) cap)) A 24 #[.slice oa (min n 5) cap, .int .i64 rt, .int .i64 pl, .int .i64 tr, .int .i64 du, .int .i64 st] := by
    have := VA.set 0 (.slice oa (min n 5) cap)
    simpa using this
  have VB1 : Vals (wr.setCell ⟨A, 0, none⟩ (.slice oa (min n 5) cap)) (A + 1) 24 #[.slice none 0 0, .int .i64 0, .int .i64 0, .int .i64 0, .int .i64 0, .int .i64 0] :=
    (Below.heap_setCell wr ⟨A, 0, none⟩ _ (A + 1) (by show A + 1 ≠ A; omega)).trans VB
  have B10 : Below A w (wr.setCell ⟨A, 0, none⟩ (.slice oa (min n 5) cap)) := B9.setCell (p := ⟨A, 0, none⟩) (Nat.le_refl _) _
  clear VA VB B9 y0 g0 HS2
  generalize wr.setCell ⟨A, 0, none⟩ (.slice oa (min n 5) cap) = W1 at *
  have x0 : W1.cell? ⟨A, 0, none⟩ = some (.slice oa (min n 5) cap) := VA1.cell 0
  have x1 : W1.cell? ⟨A, 1, none⟩ = some (.int .i64 rt) := VA1.cell 1
  have x2 : W1.cell? ⟨A, 2, none⟩ = some (.int .i64 pl) := VA1.cell 2
  have x3 : W1.cell? ⟨A, 3, none⟩ = some (.int .i64 tr) := VA1.cell 3
  have x4 : W1.cell? ⟨A, 4, none⟩ = some (.int .i64 du) := VA1.cell 4
  have x5 : W1.cell? ⟨A, 5, none⟩ = some (.int .i64 st) := VA1.cell 5
  have q0 : W1.cell? ⟨A + 1, 0, none⟩ = some (.slice none 0 0) := VB1.cell 0
  have q1 : W1.cell? ⟨A + 1, 1, none⟩ = some (.int .i64 0) := VB1.cell 1
  have q2 : W1.cell? ⟨A + 1, 2, none⟩ = some (.int .i64 0) := VB1.cell 2
  have q3 : W1.cell? ⟨A + 1, 3, none⟩ = some (.int .i64 0) := VB1.cell 3
  have q4 : W1.cell? ⟨A + 1, 4, none⟩ = some (.int .i64 0) := VB1.cell 4
  have q5 : W1.cell? ⟨A + 1, 5, none⟩ = some (.int .i64 0) := VB1.cell 5
  have g0 := VB1.free 0
  have g1 := VB1.free 1
  have g2 := VB1.free 2
  have g3 := VB1.free 3
  have g4 := VB1.free 4
  have g5 := VB1.free 5
  have hV5 := VB1.six (.slice oa (min n 5) cap) (.int .i64 rt) (.int .i64 pl) (.int .i64 tr) (.int .i64 du) (.int .i64 st)
  have hB5 := below_six B10 (show A ≤ A + 1 by omega) (.slice oa (min n 5) cap) (.int .i64 rt) (.int .i64 pl) (.int .i64 tr) (.int .i64 du) (.int .i64 st)
  clear VA1 VB1 B10
  go_wp2_with fail
  refine bodyPost_ret (retD1 (d := ⟨ls.take 5, rt, pl, tr, du, st⟩) rfl rfl hV5) rfl ?_
  exact ⟨rfl, hA ▸ hB5⟩
theorem DAt.cut {w : World} {oa : Option Addr} {n cap : Nat} {d : D6} (h : Ls w oa n cap d.ls) : DAt w oa (min n 5) cap (cutD d) := ⟨Ls.some h, Nat.min_le_right _ _⟩
end Go.Proofs.Ytaiacohnhhicpaa
