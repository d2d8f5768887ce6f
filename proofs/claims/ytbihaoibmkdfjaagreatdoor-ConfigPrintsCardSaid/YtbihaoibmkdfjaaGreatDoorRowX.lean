/-
  A block of cells, not frozen, known cell by cell: how it is kept, and what a store makes of it.
  Matchers in rows of one's own: a row that grows, and what is appended to it.
  Rows behind pointers as results; messages as cells; what stores leave alone.
  Texts in memory: a row of them that lies at a slice, and one of one's own that grows.
-/
import Derived.Test.YtbihaoibmkdfjaaGreatDoorLabB
import Derived.Laws.Rows
import Derived.Test.YtbihaoibmkdfjaaGreatDoorLabN
import Derived.OwnWalk
import Derived.Maps.AppendAt
import Derived.Lib.SliceRun
import Derived.Deep.AppendLies
import Derived.Deep.RegionLaw
import Derived.Laws.ResultCell
namespace Go.Proofs.YtbihaoibmkdfjaaGreatDoor
open Go.RowKit
set_option linter.unusedVariables false

theorem below_alloc (w : World) (o : Obj) : Below w.heap.size w (w.alloc o) := (Below.refl _ w).alloc (Nat.le_refl _) o
/-- these cells lie in block A -/
def Vals (w : World) (A : Nat) (T : TypeId) (xs : Array Value) : Prop := w.heap[A]? = some (.cells xs T (0, 0))
theorem Vals.lt {w : World} {A : Nat} {T : TypeId} {xs : Array Value} (h : Vals w A T xs) : A < w.heap.size := (Array.getElem?_eq_some_iff.1 h).1
theorem Vals.cell {w : World} {A : Nat} {T : TypeId} {xs : Array Value} (h : Vals w A T xs) (i : Nat) : w.cell? ⟨A, i, none⟩ = xs[i]? := cell_of_row w A i _ _ _ h
theorem Vals.free {w : World} {A : Nat} {T : TypeId} {xs : Array Value} (h : Vals w A T xs) (i : Nat) : w.frozen? ⟨A, i, none⟩ = false := frozen_of_row w _ _ _ _ h
theorem Vals.new (w : World) (T : TypeId) (xs : Array Value) : Vals (w.alloc (.cells xs T)) w.heap.size T xs := heap_alloc_new w _
theorem Vals.keep {w w' : World} {A C : Nat} {T : TypeId} {xs : Array Value} (h : Vals w A T xs) (hB : Below C w w') (hC : w.heap.size ≤ C) : Vals w' A T xs := (hB.block A (Nat.lt_of_lt_of_le h.lt hC)).trans h
theorem Vals.alloc {w : World} {A : Nat} {T : TypeId} {xs : Array Value} (h : Vals w A T xs) (o : Obj) : Vals (w.alloc o) A T xs := h.keep (below_alloc w o) (Nat.le_refl _)
theorem Vals.set {w : World} {A : Nat} {T : TypeId} {xs : Array Value} (h : Vals w A T xs) (i : Nat) (v : Value) : Vals (w.setCell ⟨A, i, none⟩ v) A T (xs.set! i v) := by
  unfold Vals
  rw [heap_setCell_same _ _ _ _ _ _ h]
  simp
theorem Vals.other {w : World} {A : Nat} {T : TypeId} {xs : Array Value} (h : Vals w A T xs) {B : Nat} (hne : A ≠ B) (i : Nat) (v : Value) : Vals (w.setCell ⟨B, i, none⟩ v) A T xs := (Below.heap_setCell w ⟨B, i, none⟩ v A hne).trans h
end Go.Proofs.YtbihaoibmkdfjaaGreatDoor
namespace Go.Proofs.YtbihaoibmkdfjaaGreatDoor
open Go.RowKit Go.Shelf
set_option linter.unusedVariables false

/-- matchers as cells, one behind the other -/
def cellsM (l : List M3) : List Value := l.flatMap fun x => [.int .i64 x.1, .string x.2.1, .string x.2.2]
theorem cellsM_length (l : List M3) : (cellsM l).length = l.length * 3 := by
  induction l with
  | nil => rfl
  | cons x l ih => simp only [cellsM, List.flatMap_cons, List.length_append, List.length_cons, List.length_nil] at *; omega
theorem cellsM_append (l m : List M3) : cellsM (l ++ m) = cellsM l ++ cellsM m := by unfold cellsM; simp
theorem cellsM_one (l : List M3) : ∀ u ∈ cellsM l, u.oneCell' = true := by
  intro u hu
  unfold cellsM at hu
  simp at hu
  obtain ⟨a, b, c, _, rfl | rfl | rfl⟩ := hu <;> rfl
theorem cellsM_at (l : List M3) : ∀ i, i < l.length → (cellsM l)[i * 3]? = some (.int .i64 (l.getD i zM).1) ∧ (cellsM l)[i * 3 + 1]? = some (.string (l.getD i zM).2.1) ∧ (cellsM l)[i * 3 + 2]? = some (.string (l.getD i zM).2.2) := by
  induction l with
  | nil => intro i hi; simp at hi
  | cons x l ih =>
    intro i hi
    have e : cellsM (x :: l) = .int .i64 x.1 :: .string x.2.1 :: .string x.2.2 :: cellsM l := rfl
    rw [e]
    cases i with
    | zero => exact ⟨rfl, rfl, rfl⟩
    | succ i =>
      have := ih i (by simpa using hi)
      rw [show (i + 1) * 3 = i * 3 + 1 + 1 + 1 from by omega]
      simpa using this
theorem infoMat : (Tryz.prog.info? 59).map (fun i => (i.zero, i.size, i.bytes)) = some (some (.agg #[.int .i64 0, .string ByteArray.empty, .string ByteArray.empty]), 3, 40) := by kernel_rfl
theorem Ms.of_own {w : World} {base : Nat} {v : Value} {n : Nat} {xs : List M3} (hl : xs.length = n) (h : w.ownsRow base 59 3 v n (cellsM xs)) :
    ∃ oa cap, v = .slice oa n cap ∧ Ms w oa n cap xs ∧ cap ≤ maxLen := by
  rcases h.2 with ⟨rfl, rfl⟩ | ⟨g, cap, cur, rfl, hb, hg, hnc, hm, hcs, htk⟩
  · exact ⟨none, 0, rfl, ⟨hl, Nat.le_refl _, fun i hi => absurd hi (by omega)⟩, by unfold maxLen; omega⟩
  · refine ⟨_, cap, rfl, ⟨hl, hnc, fun i hi => ⟨g, 0, rfl, ?_, ?_, ?_⟩⟩, hm⟩
    · have := (cellsM_at xs i (by omega)).1
      rw [← htk, List.getElem?_take, if_pos (by omega)] at this
      simpa [World.cell?, hg] using this
    · have := (cellsM_at xs i (by omega)).2.1
      rw [← htk, List.getElem?_take, if_pos (by omega)] at this
      simpa [World.cell?, hg] using this
    · have := (cellsM_at xs i (by omega)).2.2
      rw [← htk, List.getElem?_take, if_pos (by omega)] at this
      simpa [World.cell?, hg] using this
theorem Ms.news {w : World} {ad : Addr} {n cap : Nat} {l : List M3} (h : Ms w (some ad) n cap l) : ∀ j u, (cellsM l)[j]? = some u → w.cell? (ad.add j) = some u := by
  intro j u hj
  have hlt : j < l.length * 3 := by
    have := (List.getElem?_eq_some_iff.1 hj).1
    rwa [cellsM_length] at this
  have hl := h.len
  obtain ⟨g, o, e, h1, h2, h3⟩ := h.cell (j / 3) (by omega)
  cases e
  obtain ⟨q1, q2, q3⟩ := cellsM_at l (j / 3) (by omega)
  rw [Addr.add_lit]
  rcases (show j % 3 = 0 ∨ j % 3 = 1 ∨ j % 3 = 2 by omega) with h0 | h0 | h0
  · rw [show j / 3 * 3 = j from by omega] at q1 h1
    rw [h1, ← q1, hj]
  · rw [show j / 3 * 3 + 1 = j from by omega] at q2
    rw [show o + j / 3 * 3 + 1 = o + j from by omega] at h2
    rw [h2, ← q2, hj]
  · rw [show j / 3 * 3 + 2 = j from by omega] at q3
    rw [show o + j / 3 * 3 + 2 = o + j from by omega] at h3
    rw [h3, ← q3, hj]
theorem appendM_none (w : World) (ty : TypeId) (i : TypeInfo) (hi : Tryz.prog.info? 59 = some i) (oa : Option Addr) (n cap c : Nat) (h : n ≤ cap) (hnil : oa = none → n = 0 ∧ cap = 0) :
    (Builtin.append_ #[54, 54] ty #[.slice oa n cap, .slice none 0 c]).run Tryz.prog w = .ok (.slice oa n cap) w := by
  cases oa with
  | none =>
    obtain ⟨rfl, rfl⟩ := hnil rfl
    simp [Builtin.append_, run_underlying Tryz.underlying54, sizeOf, typeInfo, hi, Builtin.lenOf, Builtin.firstCells]
  | some ad => simp [Builtin.append_, run_underlying Tryz.underlying54, sizeOf, typeInfo, hi, Builtin.lenOf, Builtin.firstCells, h, storeCells]
theorem wp_append_ms (w : World) {o : Oper} {a : Act} {K : Act → World → Prop} {Q : Exit → Act → World → Prop} (s x : Operand)
    (ho : o.op = .call { callee := .builtin .append, args := #[s, x], argTypes := #[54, 54] }) (base : Nat) {v : Value} {n : Nat} {xs : List Value} (hs : a.eval s = v)
    (hown : w.ownsRow base 59 3 v n xs) {ox : Option Addr} {m c : Nat} {ds : List M3} (hx : a.eval x = .slice ox m c) (hD : Ms w ox m c ds) (hn : n + m ≤ 1000000) (hbase : base ≤ w.heap.size)
    (h : ∀ v' w', w'.ownsRow base 59 3 v' (n + m) (xs ++ cellsM ds) → w.grownBy w' v.ownBlock → K (a.put o.dst v') w') : o.wp Tryz.prog a w K Q := by
  obtain ⟨i0, hi, hz0, hz1, hz2⟩ := info_parts infoMat
  cases ox with
  | none =>
    have hm0 : m = 0 := by
      rcases Nat.eq_zero_or_pos m with h0 | h0
      · exact h0
      · obtain ⟨g, o, e, _⟩ := hD.cell 0 h0
        cases e
    subst hm0
    have hds : ds = [] := List.eq_nil_of_length_eq_zero hD.len
    subst hds
    have hk := h v w (by simpa [cellsM] using hown) (World.grownBy.refl w _)
    rcases hown.2 with ⟨rfl, rfl⟩ | ⟨g, cap, cur, rfl, hb, hg, hnc, _⟩
    · have hrun := appendM_none w o.type i0 hi none 0 0 c (Nat.le_refl _) (fun _ => ⟨rfl, rfl⟩)
      unfold Oper.wp
      simp [execOp, ho, resolve, invoke, builtin, hs, hx, hrun, Result.andThen]
      exact hk
    · have hrun := appendM_none w o.type i0 hi (some ⟨g, 0, none⟩) n cap c hnc (fun e => by cases e)
      unfold Oper.wp
      simp [execOp, ho, resolve, invoke, builtin, hs, hx, hrun, Result.andThen]
      exact hk
  | some ad =>
    exact wp_append_own w s x 54 ho base 59 i0 _ 3 40 Tryz.underlying54 hi hz0 hz1 hz2 rfl (by decide) v n xs hs hown ad m c (cellsM ds) hx (by rw [cellsM_length, hD.len]) hD.news (cellsM_one ds) (by unfold maxLen; omega) (by omega) hbase (fun v' w' h1 h2 _ => h v' w' h1 h2)
/-- a row of one matcher that was just laid -/
theorem Ms.one (w : World) (x : M3) : Ms (w.alloc (.cells #[.int .i64 x.1, .string x.2.1, .string x.2.2] 59)) (some ⟨w.heap.size, 0, none⟩) 1 1 [x] := by
  refine ⟨rfl, Nat.le_refl _, fun i hi => ⟨w.heap.size, 0, rfl, ?_⟩⟩
  obtain rfl : i = 0 := by omega
  simp
theorem step_append_ms (w : World) {ops : Array Oper} {o : Oper} {a : Act} {K : Act → World → Prop} {Q : Exit → Act → World → Prop} {E : Prop} (hw : Region.wanted o (yielded ops a.tmps) = true) (s x : Operand)
    (ho : o.op = .call { callee := .builtin .append, args := #[s, x], argTypes := #[54, 54] }) (base : Nat) {v : Value} {n : Nat} {xs : List Value} (hs : a.eval s = v)
    (hown : w.ownsRow base 59 3 v n xs) {ox : Option Addr} {m c : Nat} {ds : List M3} (hx : a.eval x = .slice ox m c) (hD : Ms w ox m c ds) (hn : n + m ≤ 1000000) (hbase : base ≤ w.heap.size)
    (h : ∀ v' w', w'.ownsRow base 59 3 v' (n + m) (xs ++ cellsM ds) → w.grownBy w' v.ownBlock → K (a.put o.dst v') w') : if Region.wanted o (yielded ops a.tmps) = true then Oper.wp Tryz.prog o a w K Q else E := by
  rw [if_pos hw]
  exact wp_append_ms w s x ho base hs hown hx hD hn hbase h
theorem wpList_append_ms (w : World) {ops : Array Oper} {rest : List Oper} {o : Oper} {a : Act} {Q : Exit → Act → World → Prop} (hw : Region.wanted o (yielded ops a.tmps) = true) (s x : Operand)
    (ho : o.op = .call { callee := .builtin .append, args := #[s, x], argTypes := #[54, 54] }) (base : Nat) {v : Value} {n : Nat} {xs : List Value} (hs : a.eval s = v)
    (hown : w.ownsRow base 59 3 v n xs) {ox : Option Addr} {m c : Nat} {ds : List M3} (hx : a.eval x = .slice ox m c) (hD : Ms w ox m c ds) (hn : n + m ≤ 1000000) (hbase : base ≤ w.heap.size)
    (h : ∀ v' w', w'.ownsRow base 59 3 v' (n + m) (xs ++ cellsM ds) → w.grownBy w' v.ownBlock → wpList Tryz.prog ops Q rest (a.put o.dst v') w') : wpList Tryz.prog ops Q (o :: rest) a w := by
  refine wpList_step fun K hK => ?_
  rw [if_pos hw]
  exact wp_append_ms w s x ho base hs hown hx hD hn hbase (fun v' w' h1 h2 => hK _ _ (h v' w' h1 h2))
end Go.Proofs.YtbihaoibmkdfjaaGreatDoor
namespace Go.Proofs.YtbihaoibmkdfjaaGreatDoor
open Go.RowKit Go.Shelf
set_option linter.unusedVariables false

theorem keepR {w w' : World} {a : Addr} {v : Value} (hB : Below w.heap.size w w') (h : w.cell? a = some v) : w'.cell? a = some v := (hB.cell (World.block_lt_of_cell? _ _ h)).trans h
theorem setR {w : World} {A C i j : Nat} {v u : Value} (hne : A ≠ C) (h : w.cell? ⟨C, i, none⟩ = some v) : (w.setCell ⟨A, j, none⟩ u).cell? ⟨C, i, none⟩ = some v := by
  have e := Below.heap_setCell w ⟨A, j, none⟩ u C (Ne.symm hne)
  unfold World.cell? at h ⊢
  rw [e]
  exact h
theorem retM {fn : Func} {p u : Tmp} (h : fn.results = #[.cell p 59, .tmp u]) {tmps : Array Value} {w : World} {A : Nat} {q : Int} {s t : ByteArray} {x : Value} (hp : tmps.getD p undef = .pointer (some ⟨A, 0, none⟩)) (hu : tmps.getD u undef = x)
    (hV : Vals w A 59 #[.int .i64 q, .string s, .string t]) : (results fn tmps).run Tryz.prog w = .ok (.tuple #[aggM (q, s, t), x]) w := by
  rw [results_cell_tmp h, hp, hu]
  simp [Result.andThen, asAddr, run_loadVar_row w A _ 59 _ _ _ hV Tryz.underlying59 rfl (by kernel_rfl)]
/-- five stores -/
theorem Vals.five {w : World} {A : Nat} {T : TypeId} {x0 x1 x2 x3 x4 : Value} (h : Vals w A T #[x0, x1, x2, x3, x4]) (y0 y1 y2 y3 y4 : Value) :
    Vals (((((w.setCell ⟨A, 0, none⟩ y0).setCell ⟨A, 1, none⟩ y1).setCell ⟨A, 2, none⟩ y2).setCell ⟨A, 3, none⟩ y3).setCell ⟨A, 4, none⟩ y4) A T #[y0, y1, y2, y3, y4] := by
  have := ((((h.set 0 y0).set 1 y1).set 2 y2).set 3 y3).set 4 y4
  simpa using this
theorem below_five {B : Nat} {a w : World} (h : Below B a w) {A : Nat} (hA : B ≤ A) (y0 y1 y2 y3 y4 : Value) :
    Below B a (((((w.setCell ⟨A, 0, none⟩ y0).setCell ⟨A, 1, none⟩ y1).setCell ⟨A, 2, none⟩ y2).setCell ⟨A, 3, none⟩ y3).setCell ⟨A, 4, none⟩ y4) :=
  ((((h.setCell (p := ⟨A, 0, none⟩) hA _).setCell (p := ⟨A, 1, none⟩) hA _).setCell (p := ⟨A, 2, none⟩) hA _).setCell (p := ⟨A, 3, none⟩) hA _).setCell (p := ⟨A, 4, none⟩) hA _
theorem own_keep {w w' : World} {base : Nat} {e : TypeId} {size : Nat} {v : Value} {n : Nat} {xs : List Value} (h : w.ownsRow base e size v n xs) (hB : Below w.heap.size w w') : w'.ownsRow base e size v n xs := by
  refine ⟨h.1, ?_⟩
  rcases h.2 with h2 | ⟨g, cap, cur, h3, h4, h5, h6⟩
  · exact .inl h2
  · exact .inr ⟨g, cap, cur, h3, h4, (hB.block g (Array.getElem?_eq_some_iff.1 h5).1).trans h5, h6⟩
theorem Ms.five {w : World} {oa : Option Addr} {n cap : Nat} {l : List M3} (h : Ms w oa n cap l) {A : Nat} (hne : ∀ g o, oa = some ⟨g, o, none⟩ → 0 < n → g ≠ A) (y0 y1 y2 y3 y4 : Value) :
    Ms (((((w.setCell ⟨A, 0, none⟩ y0).setCell ⟨A, 1, none⟩ y1).setCell ⟨A, 2, none⟩ y2).setCell ⟨A, 3, none⟩ y3).setCell ⟨A, 4, none⟩ y4) oa n cap l := by
  refine ⟨h.len, h.room, fun i hi => ?_⟩
  obtain ⟨g, o, e, h1, h2, h3⟩ := h.cell i hi
  have hn : A ≠ g := Ne.symm (hne g o e (by omega))
  exact ⟨g, o, e, setR hn (setR hn (setR hn (setR hn (setR hn h1)))), setR hn (setR hn (setR hn (setR hn (setR hn h2)))), setR hn (setR hn (setR hn (setR hn (setR hn h3))))⟩
theorem own_cells {w : World} {base : Nat} {e : TypeId} {size : Nat} {v : Value} {n : Nat} {xs ys : List Value} (h : w.ownsRow base e size v n xs) (e1 : xs = ys) : w.ownsRow base e size v n ys := e1 ▸ h
theorem own_set {w : World} {base : Nat} {e : TypeId} {size : Nat} {v : Value} {n : Nat} {xs : List Value} (h : w.ownsRow base e size v n xs) {A i : Nat} (u : Value) (hA : A < base) : (w.setCell ⟨A, i, none⟩ u).ownsRow base e size v n xs := by
  refine ⟨h.1, ?_⟩
  rcases h.2 with h2 | ⟨g, cap, cur, h3, h4, h5, h6⟩
  · exact .inl h2
  · exact .inr ⟨g, cap, cur, h3, h4, (Below.heap_setCell w ⟨A, i, none⟩ u g (by show g ≠ A; omega)).trans h5, h6⟩
/-- the row behind a pointer, alone -/
theorem retM1 {fn : Func} {p : Tmp} (h : fn.results = #[.cell p 59]) {tmps : Array Value} {w : World} {A : Nat} {q : Int} {s t : ByteArray} (hp : tmps.getD p undef = .pointer (some ⟨A, 0, none⟩))
    (hV : Vals w A 59 #[.int .i64 q, .string s, .string t]) : (results fn tmps).run Tryz.prog w = .ok (aggM (q, s, t)) w := by
  exact results_cell_row h tmps w A 59 #[.int .i64 q, .string s, .string t] _ _ hp hV Tryz.underlying59 rfl (by kernel_rfl)
end Go.Proofs.YtbihaoibmkdfjaaGreatDoor
namespace Go.Proofs.YtbihaoibmkdfjaaGreatDoor
open Go.RowKit Go.Shelf
set_option linter.unusedVariables false

/-- the texts l lie at a slice of length n -/
structure Ts (w : World) (oa : Option Addr) (n cap : Nat) (l : List ByteArray) : Prop where
  len : l.length = n
  room : n ≤ cap
  cell : ∀ i, i < n → ∃ g o, oa = some ⟨g, o, none⟩ ∧ w.cell? ⟨g, o + i, none⟩ = some (.string (l.getD i ByteArray.empty))
theorem Ts.below {w w' : World} {oa : Option Addr} {n cap : Nat} {l : List ByteArray} (h : Ts w oa n cap l) {C : Nat} (hB : Below C w w') (hC : w.heap.size ≤ C) : Ts w' oa n cap l := by
  refine ⟨h.len, h.room, fun i hi => ?_⟩
  obtain ⟨g, o, hg, hc⟩ := h.cell i hi
  have := World.block_lt_of_cell? w _ hc
  exact ⟨g, o, hg, (hB.cell (p := ⟨g, o + i, none⟩) (Nat.lt_of_lt_of_le this hC)).trans hc⟩
theorem Ts.nil (w : World) (cap : Nat) (oa : Option Addr) : Ts w oa 0 cap [] := ⟨rfl, Nat.zero_le _, fun i hi => absurd hi (by omega)⟩
theorem Ts.dropped {w : World} {g o n cap : Nat} {l : List ByteArray} (h : Ts w (some ⟨g, o, none⟩) n cap l) (k : Nat) (hk : k ≤ n) : Ts w (some ⟨g, o + k, none⟩) (n - k) (cap - k) (l.drop k) := by
  refine ⟨by rw [List.length_drop, h.len], by have := h.room; omega, fun i hi => ?_⟩
  obtain ⟨g', o', e, hc⟩ := h.cell (k + i) (by omega)
  cases e
  refine ⟨g, o + k, rfl, ?_⟩
  rw [Nat.add_assoc, hc, List.getD_eq_getElem?_getD, List.getD_eq_getElem?_getD, List.getElem?_drop]
def cellsT (l : List ByteArray) : List Value := l.map .string
theorem cellsT_snoc (l : List ByteArray) (x : ByteArray) : cellsT (l ++ [x]) = cellsT l ++ [.string x] := by unfold cellsT; rw [List.map_append]; rfl
theorem cellsT_at (l : List ByteArray) (i : Nat) (hi : i < l.length) : (cellsT l)[i]? = some (.string (l.getD i ByteArray.empty)) := by
  unfold cellsT
  simp [List.getD_eq_getElem?_getD, hi]
theorem infoTx : (Tryz.prog.info? 9).map (fun i => (i.zero, i.size, i.bytes)) = some (some (.string ByteArray.empty), 1, 16) := by kernel_rfl
theorem Ts.of_own {w : World} {base : Nat} {v : Value} {n : Nat} {l : List ByteArray} (hl : l.length = n) (h : w.ownsRow base 9 1 v n (cellsT l)) :
    ∃ oa cap, v = .slice oa n cap ∧ Ts w oa n cap l ∧ cap ≤ maxLen ∧ (0 < n → ∃ g, oa = some ⟨g, 0, none⟩ ∧ base ≤ g ∧ g < w.heap.size) := by
  rcases h.2 with ⟨rfl, rfl⟩ | ⟨g, cap, cur, rfl, hb, hg, hnc, hm, hcs, htk⟩
  · exact ⟨none, 0, rfl, ⟨hl, Nat.le_refl _, fun i hi => absurd hi (by omega)⟩, by unfold maxLen; omega, fun h => absurd h (by omega)⟩
  · refine ⟨_, cap, rfl, ⟨hl, hnc, fun i hi => ⟨g, 0, rfl, ?_⟩⟩, hm, fun _ => ⟨g, rfl, hb, (Array.getElem?_eq_some_iff.1 hg).1⟩⟩
    have := cellsT_at l i (by omega)
    rw [← htk, List.getElem?_take, if_pos (by omega)] at this
    simpa [World.cell?, hg] using this
theorem one_newT (w : World) (v : Value) (t : TypeId) : ∀ (j : Nat) (u : Value), [v][j]? = some u → (w.alloc (.cells #[v] t)).cell? ((⟨w.heap.size, 0, none⟩ : Addr).add j) = some u := by
  intro j u hj
  match j, hj with
  | 0, hj =>
    simp at hj
    subst hj
    exact World.cell?_alloc_at _ _ _ _ rfl
theorem one_cellT (x : ByteArray) : ∀ u ∈ [Value.string x], u.oneCell' = true := by
  intro u hu
  simp at hu
  subst hu
  rfl
end Go.Proofs.YtbihaoibmkdfjaaGreatDoor
