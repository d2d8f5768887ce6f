/-
  Routes ahead of which one is put: rows of them copied, cell by cell, and what a config with one more route in front is.
-/
import Derived.Test.YtplfmphhmlkejaaRotT
import Derived.Deep.RegionLaw
namespace Go.Proofs.Ytplfmphhmlkejaa
open Go.RowKit Go.Shelf
set_option linter.unusedVariables false

/-- the routes' own cells -/
theorem Qs.raw {w : World} {oa : Option Addr} {n cap : Nat} {l : List T2} (h : Qs w oa n cap l) : ∃ qs : List (Value × Value), qs.length = n ∧ ∀ i, i < n → ∃ (g o : Nat) (pa : Option Addr) (n1 c1 : Nat) (pb : Option Addr) (n2 c2 : Nat), oa = some ⟨g, o, none⟩ ∧
    qs.getD i zQ = (.slice pa n1 c1, .slice pb n2 c2) ∧ w.cell? ⟨g, o + i * 2, none⟩ = some (qs.getD i zQ).1 ∧ w.cell? ⟨g, o + i * 2 + 1, none⟩ = some (qs.getD i zQ).2 ∧ Ns w pa n1 c1 (l.getD i zT).1 ∧ Ms w pb n2 c2 (l.getD i zT).2 := by
  have key : ∀ i, ∃ q : Value × Value, i < n → ∃ (g o : Nat) (pa : Option Addr) (n1 c1 : Nat) (pb : Option Addr) (n2 c2 : Nat), oa = some ⟨g, o, none⟩ ∧ q = (.slice pa n1 c1, .slice pb n2 c2) ∧ w.cell? ⟨g, o + i * 2, none⟩ = some q.1 ∧ w.cell? ⟨g, o + i * 2 + 1, none⟩ = some q.2 ∧ Ns w pa n1 c1 (l.getD i zT).1 ∧ Ms w pb n2 c2 (l.getD i zT).2 := by
    intro i
    by_cases hi : i < n
    · obtain ⟨g, o, pa, n1, c1, pb, n2, c2, e, h1, h2, h3, h4⟩ := h.cell i hi
      exact ⟨(.slice pa n1 c1, .slice pb n2 c2), fun _ => ⟨g, o, pa, n1, c1, pb, n2, c2, e, rfl, h1, h2, h3, h4⟩⟩
    · exact ⟨zQ, fun h => absurd h hi⟩
  obtain ⟨F, hF⟩ := Classical.axiomOfChoice key
  refine ⟨(List.range n).map F, by simp, fun i hi => ?_⟩
  have e : ((List.range n).map F).getD i zQ = F i := by
    rw [List.getD_eq_getElem?_getD, List.getElem?_map, List.getElem?_range hi]
    rfl
  rw [e]
  exact hF i hi
theorem Qs.of_raw {w : World} {base : Nat} {v : Value} {n : Nat} {qs : List (Value × Value)} {l : List T2} (own : w.ownsRow base 41 2 v n (cellsQ qs)) (hq : qs.length = n) (hl : l.length = n)
    (part : ∀ i, i < n → ∃ (pa : Option Addr) (n1 c1 : Nat) (pb : Option Addr) (n2 c2 : Nat), qs.getD i zQ = (.slice pa n1 c1, .slice pb n2 c2) ∧ Ns w pa n1 c1 (l.getD i zT).1 ∧ Ms w pb n2 c2 (l.getD i zT).2) :
    ∃ oa cap, v = .slice oa n cap ∧ Qs w oa n cap l ∧ cap ≤ maxLen := by
  rcases own.2 with ⟨e, h0⟩ | ⟨g, cap, cur, e, hb, hg, hnc, hm, hcs, htk⟩
  · exact ⟨none, 0, by rw [e, h0], ⟨hl, by omega, fun i hi => absurd hi (by omega)⟩, by unfold maxLen; omega⟩
  · refine ⟨_, cap, e, ⟨hl, hnc, fun i hi => ?_⟩, hm⟩
    obtain ⟨pa, n1, c1, pb, n2, c2, eq, l1, l2⟩ := part i hi
    obtain ⟨k1, k2⟩ := cellsQ_at qs i (by omega)
    rw [← htk, List.getElem?_take, if_pos (by omega), eq] at k1
    rw [← htk, List.getElem?_take, if_pos (by omega), eq] at k2
    refine ⟨g, 0, pa, n1, c1, pb, n2, c2, rfl, ?_, ?_, l1, l2⟩
    · rw [Nat.zero_add, cell_of_row w g (i * 2) cur _ _ hg]
      simpa using k1
    · rw [Nat.zero_add, cell_of_row w g (i * 2 + 1) cur _ _ hg]
      simpa using k2
theorem cellsQ_news {w : World} {g o : Nat} {qs : List (Value × Value)} (h : ∀ i, i < qs.length → w.cell? ⟨g, o + i * 2, none⟩ = some (qs.getD i zQ).1 ∧ w.cell? ⟨g, o + i * 2 + 1, none⟩ = some (qs.getD i zQ).2) :
    ∀ j u, (cellsQ qs)[j]? = some u → w.cell? ((⟨g, o, none⟩ : Addr).add j) = some u := by
  intro j u hj
  have hl := (List.getElem?_eq_some_iff.1 hj).1
  rw [cellsQ_length] at hl
  have ea : (⟨g, o, none⟩ : Addr).add j = ⟨g, o + j, none⟩ := by unfold Addr.add; split <;> simp_all
  rw [ea]
  obtain ⟨i, hi⟩ : ∃ i, i = j / 2 := ⟨_, rfl⟩
  have hi2 : i < qs.length := by omega
  obtain ⟨q1, q2⟩ := cellsQ_at qs i hi2
  obtain ⟨p1, p2⟩ := h i hi2
  have hj2 : j = i * 2 ∨ j = i * 2 + 1 := by omega
  rcases hj2 with rfl | rfl
  · rw [q1] at hj
    rw [p1, hj]
  · rw [q2] at hj
    rw [← Nat.add_assoc, p2, hj]
theorem cellsQ_one {qs : List (Value × Value)} (h : ∀ i, i < qs.length → ∃ (pa : Option Addr) (n1 c1 : Nat) (pb : Option Addr) (n2 c2 : Nat), qs.getD i zQ = (.slice pa n1 c1, .slice pb n2 c2)) : ∀ u ∈ cellsQ qs, u.oneCell' = true := by
  intro u hu
  unfold cellsQ at hu
  obtain ⟨q, hq, hu2⟩ := List.mem_flatMap.1 hu
  obtain ⟨i, hi, rfl⟩ := List.getElem_of_mem hq
  obtain ⟨pa, n1, c1, pb, n2, c2, e⟩ := h i hi
  rw [List.getD_eq_getElem?_getD, List.getElem?_eq_getElem hi] at e
  have e2 : qs[i] = (.slice pa n1 c1, .slice pb n2 c2) := e
  rw [e2] at hu2
  simp only [List.mem_cons, List.not_mem_nil, or_false] at hu2
  rcases hu2 with rfl | rfl <;> rfl
theorem wpList_append_rs (w : World) {ops : Array Oper} {rest : List Oper} {o : Oper} {a : Act} {Q : Exit → Act → World → Prop} (hw : Region.wanted o (yielded ops a.tmps) = true) (s x : Operand)
    (ho : o.op = .call { callee := .builtin .append, args := #[s, x], argTypes := #[23, 23] }) (base : Nat) {v : Value} {n : Nat} {xs : List Value} (hs : a.eval s = v)
    (hown : w.ownsRow base 41 2 v n xs) {g oo : Nat} {m c : Nat} {qs : List (Value × Value)} (hx : a.eval x = .slice (some ⟨g, oo, none⟩) m c) (hm : qs.length = m)
    (hcells : ∀ i, i < qs.length → w.cell? ⟨g, oo + i * 2, none⟩ = some (qs.getD i zQ).1 ∧ w.cell? ⟨g, oo + i * 2 + 1, none⟩ = some (qs.getD i zQ).2)
    (hone : ∀ i, i < qs.length → ∃ (pa : Option Addr) (n1 c1 : Nat) (pb : Option Addr) (n2 c2 : Nat), qs.getD i zQ = (.slice pa n1 c1, .slice pb n2 c2)) (hn : n + m ≤ 1000) (hbase : base ≤ w.heap.size)
    (h : ∀ v' w', w'.ownsRow base 41 2 v' (n + m) (xs ++ cellsQ qs) → w.grownBy w' v.ownBlock → wpList Try.prog ops Q rest (a.put o.dst v') w') : wpList Try.prog ops Q (o :: rest) a w := by
  obtain ⟨i0, hi, hz0, hz1, hz2⟩ := info_parts infoQ
  refine wpList_step fun K hK => ?_
  rw [if_pos hw]
  exact wp_append_own w s x 23 ho base 41 i0 _ 2 48 Try.underlying23 hi hz0 hz1 hz2 rfl (by decide) v n xs hs hown ⟨g, oo, none⟩ m c (cellsQ qs) hx (by rw [cellsQ_length, hm]) (cellsQ_news hcells) (cellsQ_one hone) (by unfold maxLen; omega) (by omega) hbase (fun v' w' h1 h2 _ => hK _ _ (h v' w' h1 h2))

/-- a config with one more route in front, that asks nothing -/
def front (C : CfgL) : CfgL := (C.1, ([0], []) :: C.2.1.take 3, C.2.2)
theorem front_right {C : CfgL} (h : cfgR C = true) : cfgR (front C) = true := by
  obtain ⟨h1, h2, h3, h4, h5⟩ := cfgR_parts h
  rw [cfgR_is] at h ⊢
  simp only [Bool.and_eq_true] at h ⊢
  obtain ⟨q1, q2, q3, q4⟩ := h
  refine ⟨q1, (rtsB_iff _ _).2 ⟨?_, fun i hi => ?_⟩, q3, q4⟩
  · unfold front numberB
    simp only [List.length_cons, List.length_take, Bool.and_eq_true, decide_eq_true_eq]
    omega
  · cases i with
    | zero =>
      show rteR C.1.length ([0], []) = true
      unfold rteR chainB matsB
      simp
      omega
    | succ i =>
      have hi2 : i < (C.2.1.take 3).length := by simpa [front] using hi
      rw [List.length_take] at hi2
      show rteR C.1.length ((C.2.1.take 3).getD i zT) = true
      rw [getD_take zT C.2.1 (by omega)]
      exact h1 i (by omega)
theorem front_first {C : CfgL} {L : List L2} (h : cfgR C = true) (h2 : rightB L = true) : chooseF (front C) L = (0, 0) := by
  rw [chooseF_is (front_right h) h2, rotF_hit (c := front C) (l := L) 0 (by simp [front]) (fun i hi => absurd hi (by omega)) rfl]
  rfl
end Go.Proofs.Ytplfmphhmlkejaa
