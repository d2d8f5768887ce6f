/-
  The document's own: is there such a place, and what is next; the law's own: a config cut short, labels cut short.
-/
import Derived.Test.YtaiacohnhhicpaaRotM
import Derived.Lib.MinMax
namespace Go.Proofs.Ytaiacohnhhicpaa
open Go.RowKit Go.Shelf
set_option linter.unusedVariables false

theorem retC1 {fn : Func} {p : Tmp} (h : fn.results = #[.cell p 33]) {tmps : Array Value} {w : World} {A : Nat} {a b : Value} {x y : Int} (hp : tmps.getD p undef = .pointer (some ⟨A, 0, none⟩))
    (hV : Vals w A 33 (cfgV a b x y)) : (results fn tmps).run Try.prog w = .ok (.agg (cfgV a b x y)) w := results_cell_row h tmps w A 33 (cfgV a b x y) _ _ hp hV Try.underlying33 rfl (by kernel_rfl)
theorem minN_of (n k : Nat) : ∃ m : Nat, m = min n k ∧ min (n : Int) (k : Int) = (m : Int) ∧ m ≤ n ∧ m ≤ k := ⟨min n k, rfl, by omega, Nat.min_le_left _ _, Nat.min_le_right _ _⟩
theorem getD_take {α : Type} (z : α) (l : List α) {i k : Nat} (h : i < k) : (l.take k).getD i z = l.getD i z := by
  rw [List.getD_eq_getElem?_getD, List.getD_eq_getElem?_getD, List.getElem?_take_of_lt h]
theorem Qs.take {w : World} {oa : Option Addr} {n cap i : Nat} {l : List T2} (h : Qs w oa n cap l) (hi : i ≤ n) : Qs w oa i cap (l.take i) := by
  refine ⟨by rw [List.length_take, h.len]; omega, by have := h.room; omega, fun j hj => ?_⟩
  obtain ⟨g, o, pa, n1, c1, pb, n2, c2, e, h1, h2, h3, h4⟩ := h.cell j (by omega)
  refine ⟨g, o, pa, n1, c1, pb, n2, c2, e, h1, h2, ?_, ?_⟩
  · rw [getD_take zT l hj]; exact h3
  · rw [getD_take zT l hj]; exact h4
def fewC (c : CfgL) : CfgL := (c.1.take 6, c.2.1.take 6, c.2.2)
theorem CfgAt.cut {w : World} {o1 : Option Addr} {n1 c1 : Nat} {o2 : Option Addr} {n2 c2 : Nat} {c : CfgL} (h : CfgAt w o1 n1 c1 o2 n2 c2 c) {i j : Nat} (hi : i ≤ n1) (hj : j ≤ n2) : CfgAt w o1 i c1 o2 j c2 (c.1.take i, c.2.1.take j, c.2.2) := by
  refine ⟨h.rs.take hi, h.qs.take hj, h.b1, h.b2, fun k hk => ?_, fun k hk => ?_⟩
  · have hk2 : k < (c.1.take i).length := hk
    rw [List.length_take] at hk2
    rw [getD_take zR c.1 (by omega)]
    exact h.short k (by omega)
  · have hk2 : k < (c.2.1.take j).length := hk
    rw [List.length_take] at hk2
    rw [getD_take zT c.2.1 (by omega)]
    exact h.parts k (by omega)
theorem CfgAt.few {w : World} {o1 : Option Addr} {n1 c1 : Nat} {o2 : Option Addr} {n2 c2 : Nat} {c : CfgL} (h : CfgAt w o1 n1 c1 o2 n2 c2 c) : CfgAt w o1 (min n1 6) c1 o2 (min n2 6) c2 (fewC c) := by
  have e1 : c.1.take (min n1 6) = c.1.take 6 := by rw [← h.rs.len, Nat.min_comm]; simp
  have e2 : c.2.1.take (min n2 6) = c.2.1.take 6 := by rw [← h.qs.len, Nat.min_comm]; simp
  have := h.cut (Nat.min_le_left n1 6) (Nat.min_le_left n2 6)
  rw [e1, e2] at this
  exact this
set_option maxRecDepth 100000 in
set_option maxHeartbeats 1600000 in
theorem few_any (o1 : Option Addr) (n1 c1 : Nat) (o2 : Option Addr) (n2 c2 : Nat) (c : CfgL) (w : World) (h1 : n1 ≤ c1) (h2 : n2 ≤ c2) :
    Calls Try.prog 12 #[aggC o1 n1 c1 o2 n2 c2 c] w fun e w' => e = .returned (aggC o1 (min n1 6) c1 o2 (min n2 6) c2 (fewC c)) ∧ Below w.heap.size w w' := by
  obtain ⟨rs, ts, q, t⟩ := c
  dsimp only [fewC, aggC]
  obtain ⟨u, hu, eu, hun, hu6⟩ := minN_of n1 6
  obtain ⟨v, hv, ev, hvn, hv6⟩ := minN_of n2 6
  rw [← hu, ← hv]
  change min (n1 : Int) 6 = (u : Int) at eu
  change min (n2 : Int) 6 = (v : Int) at ev
  clear hu hv
  have V1 : Vals (w.alloc (.cells (cfgV (.slice o1 n1 c1) (.slice o2 n2 c2) q t) 33)) w.heap.size 33 (cfgV (.slice o1 n1 c1) (.slice o2 n2 c2) q t) := Vals.new w _ _
  have VA := V1.keep (below_alloc _ (.cells (cfgV (.slice none 0 0) (.slice none 0 0) 0 0) 33)) (Nat.le_refl _)
  have VB := Vals.new (w.alloc (.cells (cfgV (.slice o1 n1 c1) (.slice o2 n2 c2) q t) 33)) 33 (cfgV (.slice none 0 0) (.slice none 0 0) 0 0)
  have B1 := below_alloc w (.cells (cfgV (.slice o1 n1 c1) (.slice o2 n2 c2) q t) 33)
  have B9 := B1.alloc B1.size (.cells (cfgV (.slice none 0 0) (.slice none 0 0) 0 0) 33)
  go_enter Try.func12, Try.ntmps12
  go_upto_region 1 with fail
  rw [World.size_alloc] at VB
  generalize hA : w.heap.size = A at *
  have hAw : w.heap.size ≤ A := by omega
  clear V1 B1
  generalize (w.alloc (.cells (cfgV (.slice o1 n1 c1) (.slice o2 n2 c2) q t) 33)).alloc (.cells (cfgV (.slice none 0 0) (.slice none 0 0) 0 0) 33) = wr at *
  have y0 : wr.cell? ⟨A, 0, none⟩ = some (.slice o1 n1 c1) := VA.cell 0
  have y1 : wr.cell? ⟨A, 1, none⟩ = some (.slice o2 n2 c2) := VA.cell 1
  have g0 := VA.free 0
  have g1 := VA.free 1
  go_upto_region 3 with fail
  have VA1 : Vals (wr.setCell ⟨A, 0, none⟩ (.slice o1 u c1)) A 33 (cfgV (.slice o1 u c1) (.slice o2 n2 c2) q t) := by
    have := VA.set 0 (.slice o1 u c1)
    simpa using this
  have VA2 : Vals ((wr.setCell ⟨A, 0, none⟩ (.slice o1 u c1)).setCell ⟨A, 1, none⟩ (.slice o2 v c2)) A 33 (cfgV (.slice o1 u c1) (.slice o2 v c2) q t) := by
    have := VA1.set 1 (.slice o2 v c2)
    simpa using this
  have VB1 : Vals ((wr.setCell ⟨A, 0, none⟩ (.slice o1 u c1)).setCell ⟨A, 1, none⟩ (.slice o2 v c2)) (A + 1) 33 (cfgV (.slice none 0 0) (.slice none 0 0) 0 0) :=
    (Below.heap_setCell _ ⟨A, 1, none⟩ _ (A + 1) (by show A + 1 ≠ A; omega)).trans ((Below.heap_setCell wr ⟨A, 0, none⟩ _ (A + 1) (by show A + 1 ≠ A; omega)).trans VB)
  have B10 : Below A w ((wr.setCell ⟨A, 0, none⟩ (.slice o1 u c1)).setCell ⟨A, 1, none⟩ (.slice o2 v c2)) := (B9.setCell (p := ⟨A, 0, none⟩) (Nat.le_refl _) _).setCell (p := ⟨A, 1, none⟩) (Nat.le_refl _) _
  clear VA VB VA1 B9 y0 y1 g0 g1
  generalize (wr.setCell ⟨A, 0, none⟩ (.slice o1 u c1)).setCell ⟨A, 1, none⟩ (.slice o2 v c2) = W1 at *
  have x0 : W1.cell? ⟨A, 0, none⟩ = some (.slice o1 u c1) := VA2.cell 0
  have x1 : W1.cell? ⟨A, 1, none⟩ = some (.slice o2 v c2) := VA2.cell 1
  have x2 : W1.cell? ⟨A, 2, none⟩ = some (.int .i64 q) := VA2.cell 2
  have x3 : W1.cell? ⟨A, 3, none⟩ = some (.int .i64 t) := VA2.cell 3
  have q0 : W1.cell? ⟨A + 1, 0, none⟩ = some (.slice none 0 0) := VB1.cell 0
  have q1 : W1.cell? ⟨A + 1, 1, none⟩ = some (.slice none 0 0) := VB1.cell 1
  have q2 : W1.cell? ⟨A + 1, 2, none⟩ = some (.int .i64 0) := VB1.cell 2
  have q3 : W1.cell? ⟨A + 1, 3, none⟩ = some (.int .i64 0) := VB1.cell 3
  have g0 := VB1.free 0
  have g1 := VB1.free 1
  have g2 := VB1.free 2
  have g3 := VB1.free 3
  have hV5 := VB1.four (.slice o1 u c1) (.slice o2 v c2) (.int .i64 q) (.int .i64 t)
  have hB5 := below_four B10 (show A ≤ A + 1 by omega) (.slice o1 u c1) (.slice o2 v c2) (.int .i64 q) (.int .i64 t)
  clear VA2 VB1 B10
  go_wp2_with fail
  refine bodyPost_ret (retC1 rfl rfl hV5) rfl ?_
  exact ⟨rfl, hA ▸ hB5⟩
set_option maxRecDepth 100000 in
set_option maxHeartbeats 800000 in
theorem some_any (oa : Option Addr) (n cap : Nat) (l : List L2) (w : World) (h : Ls w oa n cap l) :
    Calls Try.prog 13 #[.slice oa n cap] w fun e w' => e = .returned (.slice oa (min n 5) cap) ∧ w = w' := by
  have hr := h.room
  obtain ⟨u, hu, eu, hun, hu5⟩ := minN_of n 5
  change min (n : Int) 5 = (u : Int) at eu
  have HU : Hid (min n 5 = u) := hu.symm
  clear hu h
  go_enter Try.func13, Try.ntmps13
  go_wp2_with fail
  go_ret
  exact ⟨by rw [HU.out]; rfl, rfl⟩
theorem Ls.some {w : World} {oa : Option Addr} {n cap : Nat} {l : List L2} (h : Ls w oa n cap l) : Ls w oa (min n 5) cap (l.take 5) := by
  have e : l.take (min n 5) = l.take 5 := by rw [← h.len, Nat.min_comm]; simp
  rw [← e]
  exact h.take (Nat.min_le_left _ _)
theorem ShortL.take {l : List L2} (h : ShortL l) (k : Nat) : ShortL (l.take k) := fun j hj => by
  have : j < k := by rw [List.length_take] at hj; omega
  rw [getD_take zL l this]
  exact h j (by rw [List.length_take] at hj; omega)
end Go.Proofs.Ytaiacohnhhicpaa
