/-
  Rows that the law itself makes: carried over calls, and appended to once more where what is told of another row must stay.
-/
import Derived.Test.YtmjbhmmcpjhmcaaLogX
import Derived.ArgAppend
import Derived.Deep.RegionLaw
namespace Go.Proofs.Ytmjbhmmcpjhmcaa
open Go.RowKit
set_option linter.unusedVariables false

theorem own_below {w w' : World} {base : Nat} {v : Value} {n : Nat} {xs : List Value} (h : w.ownsRow base 9 1 v n xs) (hB : Below w.heap.size w w') : w'.ownsRow base 9 1 v n xs := by
  obtain ⟨hl, h⟩ := h
  refine ⟨hl, ?_⟩
  rcases h with h | ⟨g, cap, cur, e, hb, hg, r⟩
  · exact Or.inl h
  · exact Or.inr ⟨g, cap, cur, e, hb, keepB hB hg, r⟩
theorem Arg.below {w w' : World} {oa : Option Addr} {n cap : Nat} {ss : List ByteArray} (h : Arg w oa n cap ss) (hB : Below w.heap.size w w') : Arg w' oa n cap ss :=
  ⟨h.len, h.room, h.most, h.each, fun i hi => by
    obtain ⟨b, off, h1, h2⟩ := h.cell i hi
    exact ⟨b, off, h1, keepC hB h2⟩⟩
theorem rd_take4 {w : World} {oa : Option Addr} {n cap : Nat} {xs : List ByteArray} (h : Rd w oa n cap xs) {k : Nat} (hk : k ≤ n) : Rd w oa k cap (xs.take k) := by
  refine ⟨by rw [List.length_take, h.len]; omega, Nat.le_trans hk h.room, fun i hi => ?_⟩
  obtain ⟨g, hg, hc⟩ := h.cell i (by omega)
  refine ⟨g, hg, hc.trans ?_⟩
  rw [List.getD_eq_getElem?_getD, List.getD_eq_getElem?_getD, List.getElem?_take, if_pos hi]
theorem small_each4 {l : List ByteArray} {n : Nat} (hl : l.length = n) (h : ∀ p ∈ l, p.size ≤ 96) : ∀ i, i < n → (l.getD i ByteArray.empty).size ≤ maxLen := by
  intro i hi
  rw [List.getD_eq_getElem?_getD, List.getElem?_eq_getElem (by omega)]
  have := h _ (List.getElem_mem (by omega : i < l.length))
  unfold maxLen
  exact Nat.le_trans this (by omega)
theorem getD_mem4 {l : List ByteArray} {k : Nat} (h : k < l.length) : l.getD k ByteArray.empty ∈ l := by
  rw [List.getD_eq_getElem?_getD, List.getElem?_eq_getElem h]
  exact List.getElem_mem h
theorem map_take4 (f : ByteArray → ByteArray) (l : List ByteArray) (k : Nat) (h : k < l.length) : (l.map f).take (k + 1) = (l.map f).take k ++ [f (l.getD k ByteArray.empty)] := by
  have h' : k < (l.map f).length := by rw [List.length_map]; exact h
  rw [List.take_succ_eq_append_getElem h', List.getD_eq_getElem?_getD, List.getElem?_eq_getElem h, List.getElem_map]
  rfl
theorem cut_all4 (l : List ByteArray) : ∀ p ∈ l.map (cutS 96), p.size ≤ 96 := by
  intro p hp
  obtain ⟨q, _, rfl⟩ := List.mem_map.1 hp
  exact cut_size 96 q
/-- an own row that has room -/
theorem own_room {w : World} {base : Nat} {os : Option Addr} {m cs : Nat} {xs : List Value} (h : w.ownsRow base 9 1 (.slice os m cs) m xs) (hr : m < cs) :
    ∃ g cur, os = some ⟨g, 0, none⟩ ∧ base ≤ g ∧ w.heap[g]? = some (.cells cur 9 (0, 0)) ∧ cur.size = cs ∧ cur.toList.take m = xs ∧ xs.length = m := by
  obtain ⟨hl, ⟨e, h0⟩ | ⟨g, cap, cur, e, hb, hg, h1, h2, h3, h4⟩⟩ := h
  · simp at e
    omega
  · simp at e
    obtain ⟨rfl, rfl⟩ := e
    exact ⟨g, cur, rfl, hb, hg, by simpa using h3, by simpa using h4, by simpa using hl⟩
/-- an own row's cells -/
theorem own_cells4 {w : World} {base : Nat} {os : Option Addr} {m cs : Nat} {xs : List Value} (h : w.ownsRow base 9 1 (.slice os m cs) m xs) : ∀ b, os = some b → ∀ j u, xs[j]? = some u → w.cell? (b.add j) = some u := by
  intro b hb j u hu
  have := h.lt
  obtain ⟨hl, ⟨e, h0⟩ | ⟨g, cap, cur, e, hbg, hg, h1, h2, h3, h4⟩⟩ := h
  · simp at e
    rw [e.1] at hb
    exact absurd hb (by simp)
  · simp at e
    obtain ⟨rfl, rfl⟩ := e
    cases hb
    have hj : j < m := by
      have := (List.getElem?_eq_some_iff.1 hu).1
      simp at hl
      omega
    rw [add_at, Nat.zero_add, cell_of_row w g j cur 9 (0, 0) hg, ← hu, ← h4, List.getElem?_take, if_pos (by omega)]
    simp
theorem own_nil4 {w : World} {base : Nat} {os : Option Addr} {m cs : Nat} {xs : List Value} (h : w.ownsRow base 9 1 (.slice os m cs) m xs) : os = none → m = 0 ∧ cs = 0 := by
  intro hb
  obtain ⟨hl, ⟨e, h0⟩ | ⟨g, cap, cur, e, hbg, hg, h1, h2, h3, h4⟩⟩ := h
  · simp at e
    exact ⟨h0, e.2.2⟩
  · rw [hb] at e
    simp at e
theorem getD_snoc4 {l : List ByteArray} {m : Nat} (hl : l.length = m) (p : ByteArray) : (l ++ [p]).getD m ByteArray.empty = p := by
  rw [List.getD_eq_getElem?_getD, List.getElem?_append_right (by omega), hl, Nat.sub_self]
  rfl
/-- one text more, in its place -/
theorem room_rd {w : World} {g cs m : Nat} {cur : Array Value} {l : List ByteArray} (p : ByteArray) (hg : w.heap[g]? = some (.cells cur 9 (0, 0))) (hs : cur.size = cs) (hr : m < cs) (hl : l.length = m) (ht : cur.toList.take m = strCells l) :
    Rd (w.setCell ⟨g, m, none⟩ (.string p)) (some ⟨g, 0, none⟩) (m + 1) cs (l ++ [p]) := by
  refine ⟨by rw [List.length_append, hl]; rfl, by omega, fun i hi => ⟨g, rfl, ?_⟩⟩
  by_cases e : i = m
  · subst e
    have hc : w.cell? ⟨g, i, none⟩ = some cur[i] := by
      rw [cell_of_row w g i cur 9 (0, 0) hg]
      exact Array.getElem?_eq_getElem (by omega)
    rw [World.cell?_setCell_same _ _ _ hc, getD_snoc4 hl]
  · rw [World.cell?_setCell_other _ _ _ _ (fun c => e (by cases c; rfl)), cell_of_row w g i cur 9 (0, 0) hg]
    have h1 := strCells_at l i (by omega)
    rw [← ht, List.getElem?_take, if_pos (by omega)] at h1
    rw [List.getD_eq_getElem?_getD, List.getElem?_append_left (by omega), ← List.getD_eq_getElem?_getD]
    simpa using h1
/-- what is told of another row stays, if it has that text in that place -/
theorem room_other {w : World} {g m : Nat} {v : Value} {oo : Option Addr} {nf cf : Nat} {xs : List ByteArray} (p : ByteArray) (hc : w.cell? ⟨g, m, none⟩ = some v) (h : Rd w oo nf cf xs) (hx : xs.getD m ByteArray.empty = p) :
    Rd (w.setCell ⟨g, m, none⟩ (.string p)) oo nf cf xs := by
  refine ⟨h.len, h.room, fun i hi => ?_⟩
  obtain ⟨b, hb, hcb⟩ := h.cell i hi
  refine ⟨b, hb, ?_⟩
  by_cases e : (⟨b, i, none⟩ : Addr) = ⟨g, m, none⟩
  · rw [e, World.cell?_setCell_same _ _ _ hc]
    cases e
    rw [hx]
  · rw [World.cell?_setCell_other _ _ _ _ (fun c => e c.symm)]
    exact hcb
/-- one append in place, at an operation that may be guarded -/
theorem wpList_room_g {P : Program} (w : World) {ops : Array Oper} {rest : List Oper} {o : Oper} {a : Act} {Q : Exit → Act → World → Prop}
    (hw : Region.wanted o (yielded ops a.tmps) = true) (s x : Operand) (t : TypeId) (hop : o.op = Op.call { callee := Callee.builtin Builtin.append, args := #[s, x], argTypes := #[t, t] })
    (e : TypeId) (i : TypeInfo) (size : Nat) (h1 : P.underlying t = some (.slice e)) (h2 : P.info? e = some i) (h4 : i.size = size)
    (b off n cap : Nat) (hs : a.eval s = .slice (some ⟨b, off, none⟩) n cap)
    (ad : Addr) (m c : Nat) (news : List Value) (hx : a.eval x = .slice (some ad) m c) (hn : news.length = m * size) (hc : ∀ j u, news[j]? = some u → w.cell? (ad.add j) = some u) (h1c : ∀ u ∈ news, u.oneCell' = true)
    (hroom : n + m ≤ cap) (hspare : ∀ j, j < news.length → (w.cell? ⟨b, off + n * size + j, none⟩).isSome = true ∧ w.frozen? ⟨b, off + n * size + j, none⟩ = false)
    (hK : wpList P ops Q rest (a.put o.dst (.slice (some ⟨b, off, none⟩) (n + m) cap)) (w.setCells b (off + n * size) news)) :
    wpList P ops Q (o :: rest) a w := by
  refine wpList_step fun K hK' => ?_
  rw [if_pos hw]
  subst h4
  have hrun := run_append_room_cells (P := P) w t o.type e i h1 h2 b off n cap ad m c news hn hc h1c hroom (fun j hj => (hspare j hj).1) (fun j hj => (hspare j hj).2)
  unfold Oper.wp
  simp [execOp, hop, resolve, invoke, builtin, hs, hx, hrun, Result.andThen]
  exact hK' _ _ hK
/-- one append into a new array, at an operation that may be guarded -/
theorem wpList_grows_g {P : Program} (w : World) {ops : Array Oper} {rest : List Oper} {o : Oper} {a : Act} {Q : Exit → Act → World → Prop}
    (hw : Region.wanted o (yielded ops a.tmps) = true) (s x : Operand) (t : TypeId) (hop : o.op = Op.call { callee := Callee.builtin Builtin.append, args := #[s, x], argTypes := #[t, t] })
    (e : TypeId) (i : TypeInfo) (z : Value) (size bytes : Nat) (h1 : P.underlying t = some (.slice e)) (h2 : P.info? e = some i) (h3 : i.zero = some z) (h4 : i.size = size) (h5 : i.bytes = bytes) (h6 : z.cells.size = size) (h7 : 0 < size)
    (ao : Option Addr) (n cap : Nat) (olds : List Value) (hs : a.eval s = .slice ao n cap) (hnone : ao = none → n = 0 ∧ cap = 0) (hlo : olds.length = n * size) (holds : ∀ b, ao = some b → ∀ j u, olds[j]? = some u → w.cell? (b.add j) = some u)
    (ad : Addr) (m c : Nat) (news : List Value) (hx : a.eval x = .slice (some ad) m c) (hn : news.length = m * size) (hc : ∀ j u, news[j]? = some u → w.cell? (ad.add j) = some u) (h1c : ∀ u ∈ news, u.oneCell' = true)
    (hfull : cap < n + m) (b1 : n + m ≤ maxLen) (b2 : (n + m) * bytes ≤ 140737488355328)
    (hK : ∀ v' w', w'.ownsRow w.heap.size e size v' (n + m) (olds ++ news) → w.grownBy w' none → wpList P ops Q rest (a.put o.dst v') w') :
    wpList P ops Q (o :: rest) a w := by
  refine wpList_step fun K hK' => ?_
  rw [if_pos hw]
  cases ao with
  | some b =>
    obtain ⟨v', w', hrun, r1, r2⟩ := run_append_arg_grows (P := P) w t o.type e i z size bytes h1 h2 h3 h4 h5 h6 h7 b n cap olds hlo (holds b rfl) ad m c news hn hc hfull b1 b2
    unfold Oper.wp
    simp [execOp, hop, resolve, invoke, builtin, hs, hx, hrun, Result.andThen]
    exact hK' _ _ (hK v' w' r1 r2)
  | none =>
    obtain ⟨rfl, rfl⟩ := hnone rfl
    obtain rfl : olds = [] := List.eq_nil_of_length_eq_zero (by simpa using hlo)
    obtain ⟨v', w', hrun, r1, r2, _⟩ := run_append_own (P := P) w w.heap.size t o.type e i z size bytes h1 h2 h3 h4 h5 h6 h7 (.slice none 0 0) 0 [] (World.ownsRow_nil w _ e size) ad m c news hn hc h1c b1 b2 (Nat.le_refl _)
    unfold Oper.wp
    simp [execOp, hop, resolve, invoke, builtin, hs, hx, hrun, Result.andThen]
    exact hK' _ _ (hK v' w' r1 r2)
/-- what is told of a row stays, where only new blocks were made -/
theorem rd_grown {w w' : World} {oo : Option Addr} {n cap : Nat} {xs : List ByteArray} (h : Rd w oo n cap xs) (hg : w.grownBy w' none) : Rd w' oo n cap xs := by
  refine ⟨h.len, h.room, fun i hi => ?_⟩
  obtain ⟨b, hb, hcb⟩ := h.cell i hi
  exact ⟨b, hb, (World.cell?_of_block (hg.block b (World.block_lt_of_cell? w _ hcb) (fun e => by cases e))).trans hcb⟩
end Go.Proofs.Ytmjbhmmcpjhmcaa
