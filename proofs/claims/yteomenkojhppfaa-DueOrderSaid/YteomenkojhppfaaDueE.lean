/-
  Dues: a row behind another one; a copy of a row; one more; the first one taken away.
-/
import Derived.Test.YteomenkojhppfaaDueA
import Derived.Test.YteomenkojhppfaaDueS
import Derived.Lib.SliceRun
import Derived.Deep.AppendLies
import Derived.Deep.RegionLaw
namespace Go.Proofs.Yteomenkojhppfaa
open Go.RowKit
set_option linter.unusedVariables false

theorem append_none (w : World) (ty : TypeId) (i : TypeInfo) (hi : Try.prog.info? 24 = some i) (oa : Option Addr) (n cap c : Nat) (h : n ≤ cap) (hnil : oa = none → n = 0 ∧ cap = 0) :
    (Builtin.append_ #[22, 22] ty #[.slice oa n cap, .slice none 0 c]).run Try.prog w = .ok (.slice oa n cap) w := by
  cases oa with
  | none =>
    obtain ⟨rfl, rfl⟩ := hnil rfl
    simp [Builtin.append_, run_underlying Try.underlying22, sizeOf, typeInfo, hi, Builtin.lenOf, Builtin.firstCells]
  | some ad => simp [Builtin.append_, run_underlying Try.underlying22, sizeOf, typeInfo, hi, Builtin.lenOf, Builtin.firstCells, h, storeCells]
theorem Ds.news {w : World} {ad : Addr} {n cap : Nat} {l : List D2} (h : Ds w (some ad) n cap l) : ∀ j u, (cellsD l)[j]? = some u → w.cell? (ad.add j) = some u := by
  intro j u hj
  have hlt : j < l.length * 2 := by
    have := (List.getElem?_eq_some_iff.1 hj).1
    rwa [cellsD_length] at this
  have hl := h.len
  obtain ⟨g, o, e, h1, h2⟩ := h.cell (j / 2) (by omega)
  cases e
  obtain ⟨q1, q2⟩ := cellsD_at l (j / 2) (by omega)
  rw [Addr.add_lit]
  rcases Nat.mod_two_eq_zero_or_one j with h0 | h0
  · rw [show j / 2 * 2 = j from by omega] at q1 h1
    rw [h1, ← q1, hj]
  · rw [show j / 2 * 2 + 1 = j from by omega] at q2
    rw [show o + j / 2 * 2 + 1 = o + j from by omega] at h2
    rw [h2, ← q2, hj]
theorem wp_append_ds (w : World) {o : Oper} {a : Act} {K : Act → World → Prop} {Q : Exit → Act → World → Prop} (s x : Operand)
    (ho : o.op = .call { callee := .builtin .append, args := #[s, x], argTypes := #[22, 22] }) (base : Nat) {v : Value} {n : Nat} {xs : List Value} (hs : a.eval s = v)
    (hown : w.ownsRow base 24 2 v n xs) {ox : Option Addr} {m c : Nat} {ds : List D2} (hx : a.eval x = .slice ox m c) (hD : Ds w ox m c ds) (hn : n + m ≤ 1000) (hbase : base ≤ w.heap.size)
    (h : ∀ v' w', w'.ownsRow base 24 2 v' (n + m) (xs ++ cellsD ds) → w.grownBy w' v.ownBlock → K (a.put o.dst v') w') : o.wp Try.prog a w K Q := by
  obtain ⟨i0, hi, hz0, hz1, hz2⟩ := info_parts infoDue
  cases ox with
  | none =>
    have hm0 : m = 0 := by
      rcases Nat.eq_zero_or_pos m with h0 | h0
      · exact h0
      · obtain ⟨g, o, e, _⟩ := hD.cell 0 h0
        cases e
    subst hm0
    have hds : ds = [] := List.eq_nil_of_length_eq_zero hD.len
    subst hds
    have hk := h v w (by simpa [cellsD] using hown) (World.grownBy.refl w _)
    rcases hown.2 with ⟨rfl, rfl⟩ | ⟨g, cap, cur, rfl, hb, hg, hnc, _⟩
    · have hrun := append_none w o.type i0 hi none 0 0 c (Nat.le_refl _) (fun _ => ⟨rfl, rfl⟩)
      unfold Oper.wp
      simp [execOp, ho, resolve, invoke, builtin, hs, hx, hrun, Result.andThen]
      exact hk
    · have hrun := append_none w o.type i0 hi (some ⟨g, 0, none⟩) n cap c hnc (fun e => by cases e)
      unfold Oper.wp
      simp [execOp, ho, resolve, invoke, builtin, hs, hx, hrun, Result.andThen]
      exact hk
  | some ad =>
    exact wp_append_own w s x 22 ho base 24 i0 _ 2 16 Try.underlying22 hi hz0 hz1 hz2 rfl (by decide) v n xs hs hown ad m c (cellsD ds) hx (by rw [cellsD_length, hD.len]) hD.news (cellsD_one ds) (by unfold maxLen; omega) (by omega) hbase (fun v' w' h1 h2 _ => h v' w' h1 h2)
theorem wpList_append_ds (w : World) {ops : Array Oper} {rest : List Oper} {o : Oper} {a : Act} {Q : Exit → Act → World → Prop} (hw : Region.wanted o (yielded ops a.tmps) = true) (s x : Operand)
    (ho : o.op = .call { callee := .builtin .append, args := #[s, x], argTypes := #[22, 22] }) (base : Nat) {v : Value} {n : Nat} {xs : List Value} (hs : a.eval s = v)
    (hown : w.ownsRow base 24 2 v n xs) {ox : Option Addr} {m c : Nat} {ds : List D2} (hx : a.eval x = .slice ox m c) (hD : Ds w ox m c ds) (hn : n + m ≤ 1000) (hbase : base ≤ w.heap.size)
    (h : ∀ v' w', w'.ownsRow base 24 2 v' (n + m) (xs ++ cellsD ds) → w.grownBy w' v.ownBlock → wpList Try.prog ops Q rest (a.put o.dst v') w') : wpList Try.prog ops Q (o :: rest) a w := by
  refine wpList_step fun K hK => ?_
  rw [if_pos hw]
  exact wp_append_ds w s x ho base hs hown hx hD hn hbase (fun v' w' h1 h2 => hK _ _ (h v' w' h1 h2))
theorem own_base {W : World} {base base' : Nat} {e : TypeId} {size : Nat} {v : Value} {k : Nat} {xs : List Value} (h : W.ownsRow base e size v k xs) (hb : base' ≤ base) : W.ownsRow base' e size v k xs := by
  refine ⟨h.1, ?_⟩
  rcases h.2 with h2 | ⟨g, cap, cur, h3, h4, h5⟩
  · exact .inl h2
  · exact .inr ⟨g, cap, cur, h3, Nat.le_trans hb h4, h5⟩
/-- a row of one due that was just laid -/
theorem Ds.one (w : World) (x : D2) : Ds (w.alloc (.cells #[.int .i64 x.1, .int .i64 x.2] 24)) (some ⟨w.heap.size, 0, none⟩) 1 1 [x] := by
  refine ⟨rfl, Nat.le_refl _, fun i hi => ⟨w.heap.size, 0, rfl, ?_⟩⟩
  obtain rfl : i = 0 := by omega
  simp
set_option maxRecDepth 100000 in
set_option maxHeartbeats 1600000 in
theorem clone_any (oa : Option Addr) (n cap : Nat) (l : List D2) (w : World) (h : Ds w oa n cap l) (hn : n ≤ 70) :
    Calls Try.prog 20 #[.slice oa n cap] w fun e w' => (∃ v, e = .returned v ∧ w'.ownsRow w.heap.size 24 2 v n (cellsD l)) ∧ Below w.heap.size w w' := by
  have q22 : ∀ (w : World) (a : Option Addr) (n c n' c' : Nat), (binOp .eql 22 (.slice a n c) (.slice none n' c')).run Try.prog w = .ok (.bool a.isNone) w := fun w a n c n' c' => Lib.run_eql_slice_nil w _ _ a n c n' c' Try.underlying22
  cases oa with
  | none =>
    have hm0 : n = 0 := by
      rcases Nat.eq_zero_or_pos n with h0 | h0
      · exact h0
      · obtain ⟨g, o, e, _⟩ := h.cell 0 h0
        cases e
    subst hm0
    obtain rfl : l = [] := List.eq_nil_of_length_eq_zero h.len
    clear h
    go_enter Try.func20, Try.ntmps20
    go_wp2_with fail
    go_ret
    exact ⟨⟨_, rfl, World.ownsRow_nil _ _ _ _⟩, Below.refl _ _⟩
  | some ad =>
    have hD := h.below ((Below.refl w.heap.size w).alloc (Nat.le_refl _) (.cells #[] 24)) (Nat.le_refl _)
    have HD := Lib.hid hD
    clear hD h
    go_enter Try.func20, Try.ntmps20
    go_wp2_with (at_builtin; refine wpList_append_ds _ rfl _ _ rfl w.heap.size rfl (World.ownsRow_made w #[] 0 (Nat.le_refl _) (Nat.zero_le _) (by simp)) rfl HD.out (by omega) (by simp) ?_; intro v' w1 hown hgrow)
    go_ret
    change (w.alloc (.cells #[] 24)).grownBy w1 (some w.heap.size) at hgrow
    rw [Nat.zero_add, List.nil_append] at hown
    exact ⟨⟨_, rfl, hown⟩, ((Below.refl _ w).alloc (Nat.le_refl _) _).grown hgrow (by simp) (fun k e => by cases e; exact Nat.le_refl _)⟩
end Go.Proofs.Yteomenkojhppfaa
