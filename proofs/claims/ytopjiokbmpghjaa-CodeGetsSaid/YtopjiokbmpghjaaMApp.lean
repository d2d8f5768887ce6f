/-
  Matchers in rows of one's own: a row that grows, and what is appended to it.
-/
import Derived.Test.YtopjiokbmpghjaaLabN
import Derived.OwnWalk
import Derived.Maps.AppendAt
import Derived.Lib.SliceRun
import Derived.Deep.AppendLies
import Derived.Deep.RegionLaw
namespace Go.Proofs.Ytopjiokbmpghjaa
open Go.RowKit Go.Shelf
set_option linter.unusedVariables false

/-- matchers as cells, one behind the other -/
def cellsM (l : List M3) : List Value := l.flatMap fun x => [.int .i64 x.1, .string x.2.1, .string x.2.2]
theorem cellsM_length (l : List M3) : (cellsM l).length = l.length * 3 := by
  induction l with
  | nil => rfl
  | cons x l ih => simp only [cellsM, List.flatMap_cons, List.length_append, List.length_cons, List.length_nil] at *; omega
theorem cellsM_append (l m : List M3) : cellsM (l ++ m) = cellsM l ++ cellsM m := by unfold cellsM; simp
theorem cellsM_one (l : List M3) : ∀ u ∈ cellsM l, u.oneCell' = true := by
  intro u hu
  unfold cellsM at hu
  simp at hu
  obtain ⟨a, b, c, _, rfl | rfl | rfl⟩ := hu <;> rfl
theorem cellsM_at (l : List M3) : ∀ i, i < l.length → (cellsM l)[i * 3]? = some (.int .i64 (l.getD i zM).1) ∧ (cellsM l)[i * 3 + 1]? = some (.string (l.getD i zM).2.1) ∧ (cellsM l)[i * 3 + 2]? = some (.string (l.getD i zM).2.2) := by
  induction l with
  | nil => intro i hi; simp at hi
  | cons x l ih =>
    intro i hi
    have e : cellsM (x :: l) = .int .i64 x.1 :: .string x.2.1 :: .string x.2.2 :: cellsM l := rfl
    rw [e]
    cases i with
    | zero => exact ⟨rfl, rfl, rfl⟩
    | succ i =>
      have := ih i (by simpa using hi)
      rw [show (i + 1) * 3 = i * 3 + 1 + 1 + 1 from by omega]
      simpa using this
theorem infoMat : (Try.prog.info? 45).map (fun i => (i.zero, i.size, i.bytes)) = some (some (.agg #[.int .i64 0, .string ByteArray.empty, .string ByteArray.empty]), 3, 40) := by kernel_rfl
theorem Ms.of_own {w : World} {base : Nat} {v : Value} {n : Nat} {xs : List M3} (hl : xs.length = n) (h : w.ownsRow base 45 3 v n (cellsM xs)) :
    ∃ oa cap, v = .slice oa n cap ∧ Ms w oa n cap xs ∧ cap ≤ maxLen := by
  rcases h.2 with ⟨rfl, rfl⟩ | ⟨g, cap, cur, rfl, hb, hg, hnc, hm, hcs, htk⟩
  · exact ⟨none, 0, rfl, ⟨hl, Nat.le_refl _, fun i hi => absurd hi (by omega)⟩, by unfold maxLen; omega⟩
  · refine ⟨_, cap, rfl, ⟨hl, hnc, fun i hi => ⟨g, 0, rfl, ?_, ?_, ?_⟩⟩, hm⟩
    · have := (cellsM_at xs i (by omega)).1
      rw [← htk, List.getElem?_take, if_pos (by omega)] at this
      simpa [World.cell?, hg] using this
    · have := (cellsM_at xs i (by omega)).2.1
      rw [← htk, List.getElem?_take, if_pos (by omega)] at this
      simpa [World.cell?, hg] using this
    · have := (cellsM_at xs i (by omega)).2.2
      rw [← htk, List.getElem?_take, if_pos (by omega)] at this
      simpa [World.cell?, hg] using this
theorem Ms.news {w : World} {ad : Addr} {n cap : Nat} {l : List M3} (h : Ms w (some ad) n cap l) : ∀ j u, (cellsM l)[j]? = some u → w.cell? (ad.add j) = some u := by
  intro j u hj
  have hlt : j < l.length * 3 := by
    have := (List.getElem?_eq_some_iff.1 hj).1
    rwa [cellsM_length] at this
  have hl := h.len
  obtain ⟨g, o, e, h1, h2, h3⟩ := h.cell (j / 3) (by omega)
  cases e
  obtain ⟨q1, q2, q3⟩ := cellsM_at l (j / 3) (by omega)
  rw [Addr.add_lit]
  rcases (show j % 3 = 0 ∨ j % 3 = 1 ∨ j % 3 = 2 by omega) with h0 | h0 | h0
  · rw [show j / 3 * 3 = j from by omega] at q1 h1
    rw [h1, ← q1, hj]
  · rw [show j / 3 * 3 + 1 = j from by omega] at q2
    rw [show o + j / 3 * 3 + 1 = o + j from by omega] at h2
    rw [h2, ← q2, hj]
  · rw [show j / 3 * 3 + 2 = j from by omega] at q3
    rw [show o + j / 3 * 3 + 2 = o + j from by omega] at h3
    rw [h3, ← q3, hj]
theorem appendM_none (w : World) (ty : TypeId) (i : TypeInfo) (hi : Try.prog.info? 45 = some i) (oa : Option Addr) (n cap c : Nat) (h : n ≤ cap) (hnil : oa = none → n = 0 ∧ cap = 0) :
    (Builtin.append_ #[25, 25] ty #[.slice oa n cap, .slice none 0 c]).run Try.prog w = .ok (.slice oa n cap) w := by
  cases oa with
  | none =>
    obtain ⟨rfl, rfl⟩ := hnil rfl
    simp [Builtin.append_, run_underlying Try.underlying25, sizeOf, typeInfo, hi, Builtin.lenOf, Builtin.firstCells]
  | some ad => simp [Builtin.append_, run_underlying Try.underlying25, sizeOf, typeInfo, hi, Builtin.lenOf, Builtin.firstCells, h, storeCells]
theorem wp_append_ms (w : World) {o : Oper} {a : Act} {K : Act → World → Prop} {Q : Exit → Act → World → Prop} (s x : Operand)
    (ho : o.op = .call { callee := .builtin .append, args := #[s, x], argTypes := #[25, 25] }) (base : Nat) {v : Value} {n : Nat} {xs : List Value} (hs : a.eval s = v)
    (hown : w.ownsRow base 45 3 v n xs) {ox : Option Addr} {m c : Nat} {ds : List M3} (hx : a.eval x = .slice ox m c) (hD : Ms w ox m c ds) (hn : n + m ≤ 1000000) (hbase : base ≤ w.heap.size)
    (h : ∀ v' w', w'.ownsRow base 45 3 v' (n + m) (xs ++ cellsM ds) → w.grownBy w' v.ownBlock → K (a.put o.dst v') w') : o.wp Try.prog a w K Q := by
  obtain ⟨i0, hi, hz0, hz1, hz2⟩ := info_parts infoMat
  cases ox with
  | none =>
    have hm0 : m = 0 := by
      rcases Nat.eq_zero_or_pos m with h0 | h0
      · exact h0
      · obtain ⟨g, o, e, _⟩ := hD.cell 0 h0
        cases e
    subst hm0
    have hds : ds = [] := List.eq_nil_of_length_eq_zero hD.len
    subst hds
    have hk := h v w (by simpa [cellsM] using hown) (World.grownBy.refl w _)
    rcases hown.2 with ⟨rfl, rfl⟩ | ⟨g, cap, cur, rfl, hb, hg, hnc, _⟩
    · have hrun := appendM_none w o.type i0 hi none 0 0 c (Nat.le_refl _) (fun _ => ⟨rfl, rfl⟩)
      unfold Oper.wp
      simp [execOp, ho, resolve, invoke, builtin, hs, hx, hrun, Result.andThen]
      exact hk
    · have hrun := appendM_none w o.type i0 hi (some ⟨g, 0, none⟩) n cap c hnc (fun e => by cases e)
      unfold Oper.wp
      simp [execOp, ho, resolve, invoke, builtin, hs, hx, hrun, Result.andThen]
      exact hk
  | some ad =>
    exact wp_append_own w s x 25 ho base 45 i0 _ 3 40 Try.underlying25 hi hz0 hz1 hz2 rfl (by decide) v n xs hs hown ad m c (cellsM ds) hx (by rw [cellsM_length, hD.len]) hD.news (cellsM_one ds) (by unfold maxLen; omega) (by omega) hbase (fun v' w' h1 h2 _ => h v' w' h1 h2)
/-- a row of one matcher that was just laid -/
theorem Ms.one (w : World) (x : M3) : Ms (w.alloc (.cells #[.int .i64 x.1, .string x.2.1, .string x.2.2] 45)) (some ⟨w.heap.size, 0, none⟩) 1 1 [x] := by
  refine ⟨rfl, Nat.le_refl _, fun i hi => ⟨w.heap.size, 0, rfl, ?_⟩⟩
  obtain rfl : i = 0 := by omega
  simp
theorem step_append_ms (w : World) {ops : Array Oper} {o : Oper} {a : Act} {K : Act → World → Prop} {Q : Exit → Act → World → Prop} {E : Prop} (hw : Region.wanted o (yielded ops a.tmps) = true) (s x : Operand)
    (ho : o.op = .call { callee := .builtin .append, args := #[s, x], argTypes := #[25, 25] }) (base : Nat) {v : Value} {n : Nat} {xs : List Value} (hs : a.eval s = v)
    (hown : w.ownsRow base 45 3 v n xs) {ox : Option Addr} {m c : Nat} {ds : List M3} (hx : a.eval x = .slice ox m c) (hD : Ms w ox m c ds) (hn : n + m ≤ 1000000) (hbase : base ≤ w.heap.size)
    (h : ∀ v' w', w'.ownsRow base 45 3 v' (n + m) (xs ++ cellsM ds) → w.grownBy w' v.ownBlock → K (a.put o.dst v') w') : if Region.wanted o (yielded ops a.tmps) = true then Oper.wp Try.prog o a w K Q else E := by
  rw [if_pos hw]
  exact wp_append_ms w s x ho base hs hown hx hD hn hbase h
theorem wpList_append_ms (w : World) {ops : Array Oper} {rest : List Oper} {o : Oper} {a : Act} {Q : Exit → Act → World → Prop} (hw : Region.wanted o (yielded ops a.tmps) = true) (s x : Operand)
    (ho : o.op = .call { callee := .builtin .append, args := #[s, x], argTypes := #[25, 25] }) (base : Nat) {v : Value} {n : Nat} {xs : List Value} (hs : a.eval s = v)
    (hown : w.ownsRow base 45 3 v n xs) {ox : Option Addr} {m c : Nat} {ds : List M3} (hx : a.eval x = .slice ox m c) (hD : Ms w ox m c ds) (hn : n + m ≤ 1000000) (hbase : base ≤ w.heap.size)
    (h : ∀ v' w', w'.ownsRow base 45 3 v' (n + m) (xs ++ cellsM ds) → w.grownBy w' v.ownBlock → wpList Try.prog ops Q rest (a.put o.dst v') w') : wpList Try.prog ops Q (o :: rest) a w := by
  refine wpList_step fun K hK => ?_
  rw [if_pos hw]
  exact wp_append_ms w s x ho base hs hown hx hD hn hbase (fun v' w' h1 h2 => hK _ _ (h v' w' h1 h2))
end Go.Proofs.Ytopjiokbmpghjaa
