/-
  One more hush: those that are not over, and it, in memory of their own.
-/
import Derived.Test.YtkckdombcnifnaaHshF
import Derived.Deep.RegionHeld3
import Derived.RegionTactic
namespace Go.Proofs.Ytkckdombcnifnaa
open Go.RowKit Go.Shelf
set_option linter.unusedVariables false

set_option maxRecDepth 100000 in
set_option maxHeartbeats 1600000 in
theorem cloneM_any (oa : Option Addr) (n cap : Nat) (l : List M3) (w : World) (h : Ms w oa n cap l) (hn : n ≤ 1000000) :
    Calls Try.prog 43 #[.slice oa n cap] w fun e w' => (∃ v, e = .returned v ∧ w'.ownsRow w.heap.size 51 3 v n (cellsM l)) ∧ Below w.heap.size w w' := by
  have q := fun (w : World) (a : Option Addr) (n c n' c' : Nat) => Lib.run_eql_slice_nil (P := Try.prog) w 23 51 a n c n' c' Try.underlying23
  cases oa with
  | none =>
    have hn0 : n = 0 := by
      rcases Nat.eq_zero_or_pos n with h0 | h0
      · exact h0
      · obtain ⟨g, o, e, _⟩ := h.cell 0 h0
        cases e
    subst hn0
    have hl : l = [] := List.eq_nil_of_length_eq_zero h.len
    subst hl
    clear h
    go_enter Try.func43, Try.ntmps43
    go_wp2_with fail
    go_ret
    exact ⟨⟨_, rfl, World.ownsRow_nil _ _ _ _⟩, Below.refl _ _⟩
  | some ad =>
    have B0 := below_alloc w (.cells #[] 51)
    have hH := h.below B0 (Nat.le_refl _)
    have own0 : (w.alloc (.cells #[] 51)).ownsRow w.heap.size 51 3 (.slice (some ⟨w.heap.size, 0, none⟩) 0 0) 0 (cellsM []) := World.ownsRow_made w #[] 0 (Nat.le_refl _) (Nat.zero_le _) rfl
    clear h
    go_enter Try.func43, Try.ntmps43
    go_wp2_with (first | (at_builtin; refine wpList_append_ms _ rfl (.tmp 5) (.tmp 6) rfl w.heap.size rfl own0 rfl hH (by omega) B0.size ?_; intro v1 w1 own1 hg1; have B8 : Below w.heap.size w w1 := B0.grown hg1 B0.size (fun r e => (own0.lt r e).1)))
    rw [Nat.zero_add] at own1
    have own2 : w1.ownsRow w.heap.size 51 3 v1 n (cellsM l) := own1
    clear own1 own0 hg1 hH q
    go_wp2_with fail
    go_ret
    exact ⟨⟨_, rfl, own2⟩, B8⟩
theorem cellsH_set2 (l : List H5) : ∀ (i : Nat) (pa : Option Addr) (n c : Nat), i < l.length → cellsH (l.set i { l.getD i zH with pa := pa, n := n, c := c }) = (cellsH l).set (i * 3 + 2) (.slice pa n c) := by
  induction l with
  | nil => intro i pa n c hi; simp at hi
  | cons y l ih =>
    intro i pa n c hi
    have e : ∀ (z : H5) (m : List H5), cellsH (z :: m) = .int .i64 z.f :: .int .i64 z.t :: .slice z.pa z.n z.c :: cellsH m := fun _ _ => rfl
    cases i with
    | zero => rw [List.set_cons_zero, e, e]; rfl
    | succ i =>
      rw [List.set_cons_succ, e, e, List.getD_cons_succ, ih i pa n c (by simpa using hi), show (i + 1) * 3 + 2 = i * 3 + 2 + 1 + 1 + 1 from by omega]
      rfl
theorem own_setH2 {w : World} {base g n cap : Nat} {l : List H5} (hl : l.length = n) (h : w.ownsRow base 25 3 (.slice (some ⟨g, 0, none⟩) n cap) n (cellsH l)) (i : Nat) (hi : i < n) (pa : Option Addr) (m c : Nat) :
    (w.setCell ⟨g, i * 3 + 2, none⟩ (.slice pa m c)).ownsRow base 25 3 (.slice (some ⟨g, 0, none⟩) n cap) n (cellsH (l.set i { l.getD i zH with pa := pa, n := m, c := c })) := by
  rcases h.2 with ⟨e, _⟩ | ⟨g', cap', cur, e, hb, hg, hnc, hm, hcs, htk⟩
  · cases e
  · cases e
    refine ⟨by rw [cellsH_length, List.length_set, hl], .inr ⟨g, cap, cur.set! (i * 3 + 2) (.slice pa m c), rfl, hb, heap_setCell_same _ _ _ _ _ _ hg, hnc, hm, by simpa using hcs, ?_⟩⟩
    rw [cellsH_set2 l i pa m c (by omega), ← htk]
    simp [List.take_set]
/-- a store into a row of another type passes by -/
theorem own_setO {w : World} {b1 b2 : Nat} {e1 e2 : TypeId} {s1 s2 : Nat} {v1 : Value} {g n2 c2 n1 : Nat} {x1 x2 : List Value} (h1 : w.ownsRow b1 e1 s1 v1 n1 x1) (h2 : w.ownsRow b2 e2 s2 (.slice (some ⟨g, 0, none⟩) n2 c2) n2 x2) (hne : e1 ≠ e2) (i : Nat) (u : Value) : (w.setCell ⟨g, i, none⟩ u).ownsRow b1 e1 s1 v1 n1 x1 := by
  refine ⟨h1.1, ?_⟩
  rcases h1.2 with h | ⟨g1, cap, cur, e, hb, hg, r⟩
  · exact .inl h
  · refine .inr ⟨g1, cap, cur, e, hb, (Below.heap_setCell w ⟨g, i, none⟩ u g1 (fun e => ?_)).trans hg, r⟩
    rcases h2.2 with ⟨e', _⟩ | ⟨g', cap', cur', e', _, hg', _⟩
    · cases e'
    · cases e'
      simp only at e
      rw [e, hg'] at hg
      simp at hg
      exact hne hg.2.symm
/-- how far the matchers have been copied -/
structure CpInv (w wr : World) (l dk : List H5) (k : Nat) : Prop where
  len : dk.length = l.length
  same : dk.map h3 = l.map h3
  rest : dk.drop k = l.drop k
  own : ∀ x ∈ dk.take k, wr.ownsRow w.heap.size 51 3 (.slice x.pa x.n x.c) x.n (cellsM x.ms) ∧ x.ms.length = x.n
theorem set_h3 (l : List H5) : ∀ (i : Nat) (pa : Option Addr) (m c : Nat), i < l.length → (l.set i { l.getD i zH with pa := pa, n := m, c := c }).map h3 = l.map h3 := by
  intro i pa m c hi
  apply List.ext_getElem
  · simp
  · intro j h1 h2
    rw [List.getElem_map, List.getElem_map, List.getElem_set]
    split
    · rename_i e
      subst e
      rw [getD_H l i hi]
      rfl
    · rfl
end Go.Proofs.Ytkckdombcnifnaa
