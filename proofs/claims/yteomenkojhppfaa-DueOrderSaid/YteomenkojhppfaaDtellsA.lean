/-
  Dues: what Push, Pop and Drain tell, one contract each.
-/
import Derived.Test.YteomenkojhppfaaDueV
import Derived.Test.YteomenkojhppfaaDueO
import Derived.Test.YteomenkojhppfaaDueP
namespace Go.Proofs.Yteomenkojhppfaa
open Go.RowKit
set_option linter.unusedVariables false

def PushR (l : List D2) (d : D2) (e : Int) (A : List D2) : Prop :=
  ((dueB l = false ∨ timeB d.1 = false) ∧ e = 1 ∧ A = []) ∨ (dueB l = true ∧ timeB d.1 = true ∧ l.length = 64 ∧ e = 5 ∧ A = []) ∨ (dueB l = true ∧ timeB d.1 = true ∧ l.length < 64 ∧ e = 0 ∧ A = l ++ [d])
def PopR (l : List D2) (x : D2) (e : Int) (A : List D2) : Prop :=
  (dueB l = false ∧ e = 1 ∧ A = [] ∧ x = (0, 0)) ∨ (dueB l = true ∧ l = [] ∧ e = 4 ∧ A = [] ∧ x = (0, 0)) ∨ (dueB l = true ∧ 0 < l.length ∧ e = 0 ∧ sortD l = x :: A)
def DrainR (l : List D2) (now : Int) (e : Int) (A H : List D2) : Prop :=
  ((dueB l = false ∨ timeB now = false) ∧ e = 1 ∧ A = [] ∧ H = []) ∨ (dueB l = true ∧ timeB now = true ∧ e = 0 ∧ A = afterD now (sortD l) ∧ H = hereD now (sortD l))
theorem push_r (oa : Option Addr) (n cap : Nat) (l : List D2) (d : D2) (w : World) (h : Ds w oa n cap l) (hn : n ≤ 70) :
    Calls Try.prog 7 #[.slice oa n cap, .agg #[.int .i64 d.1, .int .i64 d.2]] w fun r w' => (∃ oa' m' cap' e A, r = .returned (.tuple #[.slice oa' m' cap', .int .i64 e]) ∧ Ds w' oa' m' cap' A ∧ cap' ≤ maxLen ∧ PushR l d e A) ∧ Below w.heap.size w w' := by
  have hl := h.len
  by_cases hb : dueB l = false ∨ timeB d.1 = false
  · exact (push_no oa n cap l d w h hn hb).mono fun r w' ⟨h1, h2⟩ => ⟨⟨_, _, _, _, [], h1, Ds.nil _ _ _, by unfold maxLen; omega, .inl ⟨hb, rfl, rfl⟩⟩, h2⟩
  · have hb1 : dueB l = true := by cases hx : dueB l <;> simp_all
    have hb2 : timeB d.1 = true := by cases hx : timeB d.1 <;> simp_all
    by_cases h64 : n = 64
    · subst h64
      exact (push_full oa cap l d w h hb1.symm hb2.symm).mono fun r w' ⟨h1, h2⟩ => ⟨⟨_, _, _, _, [], h1, Ds.nil _ _ _, by unfold maxLen; omega, .inr (.inl ⟨hb1, hb2, hl, rfl, rfl⟩)⟩, h2⟩
    · have hle : l.length ≤ 64 := by
        unfold dueB at hb1
        simp at hb1
        exact hb1.1
      exact (push_yes oa n cap l d w h (by omega) hb1.symm hb2.symm).mono fun r w' ⟨⟨o, c, h1, h3, h4⟩, h2⟩ => ⟨⟨_, _, _, _, _, h1, h3, h4, .inr (.inr ⟨hb1, hb2, by omega, rfl, rfl⟩)⟩, h2⟩
theorem pop_r (oa : Option Addr) (n cap : Nat) (l : List D2) (w : World) (h : Ds w oa n cap l) (hn : n ≤ 70) :
    Calls Try.prog 8 #[.slice oa n cap] w fun r w' => (∃ oa' m' cap' x e A, r = .returned (.tuple #[.slice oa' m' cap', .agg #[.int .i64 x.1, .int .i64 x.2], .int .i64 e]) ∧ Ds w' oa' m' cap' A ∧ cap' ≤ maxLen ∧ PopR l x e A) ∧ Below w.heap.size w w' := by
  have hl := h.len
  cases hb : dueB l with
  | false => exact (pop_no oa n cap l w h hn false hb.symm (fun e => by cases e) 1 rfl).mono fun r w' ⟨h1, h2⟩ => ⟨⟨_, _, _, (0, 0), _, [], h1, Ds.nil _ _ _, by unfold maxLen; omega, .inl ⟨hb, rfl, rfl, rfl⟩⟩, h2⟩
  | true =>
    by_cases h0 : n = 0
    · exact (pop_no oa n cap l w h hn true hb.symm (fun _ => h0) 4 rfl).mono fun r w' ⟨h1, h2⟩ => ⟨⟨_, _, _, (0, 0), _, [], h1, Ds.nil _ _ _, by unfold maxLen; omega, .inr (.inl ⟨hb, List.eq_nil_of_length_eq_zero (by omega), rfl, rfl, rfl⟩)⟩, h2⟩
    · have hs := sortD_length l
      cases hx : sortD l with
      | nil => rw [hx] at hs; simp at hs; omega
      | cons x r =>
        exact (pop_yes oa n cap l w h hn (by omega) hb.symm x r hx).mono fun e w' ⟨⟨o, c, h1, h3, h4, _⟩, h2⟩ => ⟨⟨_, _, _, x, _, r, h1, h3, h4, .inr (.inr ⟨hb, by omega, rfl, hx⟩)⟩, h2⟩
theorem drain_r (oa : Option Addr) (n cap : Nat) (l : List D2) (now : Int) (w : World) (h : Ds w oa n cap l) (hn : n ≤ 70) :
    Calls Try.prog 9 #[.slice oa n cap, .int .i64 now] w fun r w' => (∃ oa1 m1 cap1 oa2 m2 cap2 e A H, r = .returned (.tuple #[.slice oa1 m1 cap1, .slice oa2 m2 cap2, .int .i64 e]) ∧ Ds w' oa1 m1 cap1 A ∧ Ds w' oa2 m2 cap2 H ∧ cap1 ≤ maxLen ∧ cap2 ≤ maxLen ∧ DrainR l now e A H) ∧ Below w.heap.size w w' := by
  by_cases hb : dueB l = false ∨ timeB now = false
  · exact (drain_no oa n cap l now w h hn hb).mono fun r w' ⟨h1, h2⟩ => ⟨⟨_, _, _, _, _, _, _, [], [], h1, Ds.nil _ _ _, Ds.nil _ _ _, by unfold maxLen; omega, by unfold maxLen; omega, .inl ⟨hb, rfl, rfl, rfl⟩⟩, h2⟩
  · have hb1 : dueB l = true := by cases hx : dueB l <;> simp_all
    have hb2 : timeB now = true := by cases hx : timeB now <;> simp_all
    exact (drain_yes oa n cap l now w h hn hb1.symm hb2.symm).mono fun r w' ⟨⟨o1, c1, o2, c2, h1, h3, h4, h5, h6⟩, h2⟩ => ⟨⟨_, _, _, _, _, _, _, _, _, h1, h3, h4, h5, h6, .inr ⟨hb1, hb2, rfl, rfl, rfl⟩⟩, h2⟩
theorem step_append_ds (w : World) {ops : Array Oper} {o : Oper} {a : Act} {K : Act → World → Prop} {Q : Exit → Act → World → Prop} {E : Prop} (hw : Region.wanted o (yielded ops a.tmps) = true) (s x : Operand)
    (ho : o.op = .call { callee := .builtin .append, args := #[s, x], argTypes := #[22, 22] }) (base : Nat) {v : Value} {n : Nat} {xs : List Value} (hs : a.eval s = v)
    (hown : w.ownsRow base 24 2 v n xs) {ox : Option Addr} {m c : Nat} {ds : List D2} (hx : a.eval x = .slice ox m c) (hD : Ds w ox m c ds) (hn : n + m ≤ 1000) (hbase : base ≤ w.heap.size)
    (h : ∀ v' w', w'.ownsRow base 24 2 v' (n + m) (xs ++ cellsD ds) → w.grownBy w' v.ownBlock → K (a.put o.dst v') w') : if Region.wanted o (yielded ops a.tmps) = true then Oper.wp Try.prog o a w K Q else E := by
  rw [if_pos hw]
  exact wp_append_ds w s x ho base hs hown hx hD hn hbase h
end Go.Proofs.Yteomenkojhppfaa
