/-
  Labels: a row behind another one; a copy of a row; one more; the first one taken away.
-/
import Derived.Test.YtbbbbkagoonklaaLabS
import Derived.Test.YtbbbbkagoonklaaLabW
import Derived.Lib.SliceRun
import Derived.Deep.AppendLies
import Derived.Deep.RegionLaw
namespace Go.Proofs.Ytbbbbkagoonklaa
open Go.RowKit
set_option linter.unusedVariables false

theorem append_none (w : World) (ty : TypeId) (i : TypeInfo) (hi : Try.prog.info? 41 = some i) (oa : Option Addr) (n cap c : Nat) (h : n ≤ cap) (hnil : oa = none → n = 0 ∧ cap = 0) :
    (Builtin.append_ #[22, 22] ty #[.slice oa n cap, .slice none 0 c]).run Try.prog w = .ok (.slice oa n cap) w := by
  cases oa with
  | none =>
    obtain ⟨rfl, rfl⟩ := hnil rfl
    simp [Builtin.append_, run_underlying Try.underlying22, sizeOf, typeInfo, hi, Builtin.lenOf, Builtin.firstCells]
  | some ad => simp [Builtin.append_, run_underlying Try.underlying22, sizeOf, typeInfo, hi, Builtin.lenOf, Builtin.firstCells, h, storeCells]
theorem Ls.news {w : World} {ad : Addr} {n cap : Nat} {l : List L2} (h : Ls w (some ad) n cap l) : ∀ j u, (cellsL l)[j]? = some u → w.cell? (ad.add j) = some u := by
  intro j u hj
  have hlt : j < l.length * 2 := by
    have := (List.getElem?_eq_some_iff.1 hj).1
    rwa [cellsL_length] at this
  have hl := h.len
  obtain ⟨g, o, e, h1, h2⟩ := h.cell (j / 2) (by omega)
  cases e
  obtain ⟨q1, q2⟩ := cellsL_at l (j / 2) (by omega)
  rw [Addr.add_lit]
  rcases Nat.mod_two_eq_zero_or_one j with h0 | h0
  · rw [show j / 2 * 2 = j from by omega] at q1 h1
    rw [h1, ← q1, hj]
  · rw [show j / 2 * 2 + 1 = j from by omega] at q2
    rw [show o + j / 2 * 2 + 1 = o + j from by omega] at h2
    rw [h2, ← q2, hj]
theorem wp_append_ls (w : World) {o : Oper} {a : Act} {K : Act → World → Prop} {Q : Exit → Act → World → Prop} (s x : Operand)
    (ho : o.op = .call { callee := .builtin .append, args := #[s, x], argTypes := #[22, 22] }) (base : Nat) {v : Value} {n : Nat} {xs : List Value} (hs : a.eval s = v)
    (hown : w.ownsRow base 41 2 v n xs) {ox : Option Addr} {m c : Nat} {ds : List L2} (hx : a.eval x = .slice ox m c) (hD : Ls w ox m c ds) (hn : n + m ≤ 1000) (hbase : base ≤ w.heap.size)
    (h : ∀ v' w', w'.ownsRow base 41 2 v' (n + m) (xs ++ cellsL ds) → w.grownBy w' v.ownBlock → K (a.put o.dst v') w') : o.wp Try.prog a w K Q := by
  obtain ⟨i0, hi, hz0, hz1, hz2⟩ := info_parts infoLab
  cases ox with
  | none =>
    have hm0 : m = 0 := by
      rcases Nat.eq_zero_or_pos m with h0 | h0
      · exact h0
      · obtain ⟨g, o, e, _⟩ := hD.cell 0 h0
        cases e
    subst hm0
    have hds : ds = [] := List.eq_nil_of_length_eq_zero hD.len
    subst hds
    have hk := h v w (by simpa [cellsL] using hown) (World.grownBy.refl w _)
    rcases hown.2 with ⟨rfl, rfl⟩ | ⟨g, cap, cur, rfl, hb, hg, hnc, _⟩
    · have hrun := append_none w o.type i0 hi none 0 0 c (Nat.le_refl _) (fun _ => ⟨rfl, rfl⟩)
      unfold Oper.wp
      simp [execOp, ho, resolve, invoke, builtin, hs, hx, hrun, Result.andThen]
      exact hk
    · have hrun := append_none w o.type i0 hi (some ⟨g, 0, none⟩) n cap c hnc (fun e => by cases e)
      unfold Oper.wp
      simp [execOp, ho, resolve, invoke, builtin, hs, hx, hrun, Result.andThen]
      exact hk
  | some ad =>
    exact wp_append_own w s x 22 ho base 41 i0 _ 2 32 Try.underlying22 hi hz0 hz1 hz2 rfl (by decide) v n xs hs hown ad m c (cellsL ds) hx (by rw [cellsL_length, hD.len]) hD.news (cellsL_one ds) (by unfold maxLen; omega) (by omega) hbase (fun v' w' h1 h2 _ => h v' w' h1 h2)
theorem wpList_append_ls (w : World) {ops : Array Oper} {rest : List Oper} {o : Oper} {a : Act} {Q : Exit → Act → World → Prop} (hw : Region.wanted o (yielded ops a.tmps) = true) (s x : Operand)
    (ho : o.op = .call { callee := .builtin .append, args := #[s, x], argTypes := #[22, 22] }) (base : Nat) {v : Value} {n : Nat} {xs : List Value} (hs : a.eval s = v)
    (hown : w.ownsRow base 41 2 v n xs) {ox : Option Addr} {m c : Nat} {ds : List L2} (hx : a.eval x = .slice ox m c) (hD : Ls w ox m c ds) (hn : n + m ≤ 1000) (hbase : base ≤ w.heap.size)
    (h : ∀ v' w', w'.ownsRow base 41 2 v' (n + m) (xs ++ cellsL ds) → w.grownBy w' v.ownBlock → wpList Try.prog ops Q rest (a.put o.dst v') w') : wpList Try.prog ops Q (o :: rest) a w := by
  refine wpList_step fun K hK => ?_
  rw [if_pos hw]
  exact wp_append_ls w s x ho base hs hown hx hD hn hbase (fun v' w' h1 h2 => hK _ _ (h v' w' h1 h2))
theorem own_base {W : World} {base base' : Nat} {e : TypeId} {size : Nat} {v : Value} {k : Nat} {xs : List Value} (h : W.ownsRow base e size v k xs) (hb : base' ≤ base) : W.ownsRow base' e size v k xs := by
  refine ⟨h.1, ?_⟩
  rcases h.2 with h2 | ⟨g, cap, cur, h3, h4, h5⟩
  · exact .inl h2
  · exact .inr ⟨g, cap, cur, h3, Nat.le_trans hb h4, h5⟩
/-- a row of one due that was just laid -/
theorem Ls.one (w : World) (x : L2) : Ls (w.alloc (.cells #[.string x.1, .string x.2] 41)) (some ⟨w.heap.size, 0, none⟩) 1 1 [x] := by
  refine ⟨rfl, Nat.le_refl _, fun i hi => ⟨w.heap.size, 0, rfl, ?_⟩⟩
  obtain rfl : i = 0 := by omega
  simp
end Go.Proofs.Ytbbbbkagoonklaa
