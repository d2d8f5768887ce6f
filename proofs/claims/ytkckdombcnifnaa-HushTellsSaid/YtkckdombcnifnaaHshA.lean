/-
  Hushes in memory: a row of them that lies at a slice, or is one's own; the matchers that they point to.
-/
import Derived.Test.YtkckdombcnifnaaHshM
import Derived.Test.YtkckdombcnifnaaVals
import Derived.Test.YtkckdombcnifnaaMApp
import Derived.Laws.ResultCell
namespace Go.Proofs.Ytkckdombcnifnaa
open Go.RowKit Go.Shelf
set_option linter.unusedVariables false

/-- a hush as it lies: its times, where its matchers lie, and which they are -/
structure H5 where
  f : Int
  t : Int
  pa : Option Addr
  n : Nat
  c : Nat
  ms : List M3
instance : Inhabited H5 := ⟨⟨0, 0, none, 0, 0, []⟩⟩
abbrev zH : H5 := ⟨0, 0, none, 0, 0, []⟩
/-- what it says -/
def h3 (h : H5) : T3 := (h.f, h.t, h.ms)
abbrev vH (h : H5) : Array Value := #[.int .i64 h.f, .int .i64 h.t, .slice h.pa h.n h.c]
abbrev aggH (h : H5) : Value := .agg (vH h)
def cH (h : H5) : List Value := [.int .i64 h.f, .int .i64 h.t, .slice h.pa h.n h.c]
/-- the hushes l lie at a slice of length n -/
structure Hs (w : World) (oa : Option Addr) (n cap : Nat) (l : List H5) : Prop where
  len : l.length = n
  room : n ≤ cap
  cell : ∀ i, i < n → ∃ g o, oa = some ⟨g, o, none⟩ ∧ w.cell? ⟨g, o + i * 3, none⟩ = some (.int .i64 (l.getD i zH).f) ∧ w.cell? ⟨g, o + i * 3 + 1, none⟩ = some (.int .i64 (l.getD i zH).t) ∧ w.cell? ⟨g, o + i * 3 + 2, none⟩ = some (.slice (l.getD i zH).pa (l.getD i zH).n (l.getD i zH).c)
/-- their matchers lie there -/
def Lk (w : World) (l : List H5) : Prop := ∀ x ∈ l, Ms w x.pa x.n x.c x.ms ∧ x.n ≤ 3074457345618258602
theorem Lk.below {w w' : World} {l : List H5} (h : Lk w l) {C : Nat} (hB : Below C w w') (hC : w.heap.size ≤ C) : Lk w' l := fun x hx => ⟨(h x hx).1.below hB hC, (h x hx).2⟩
theorem Lk.nil (w : World) : Lk w [] := fun x hx => by cases hx
theorem Lk.sub {w : World} {l m : List H5} (h : Lk w l) (hm : ∀ x ∈ m, x ∈ l) : Lk w m := fun x hx => h x (hm x hx)
theorem Lk.take {w : World} {l : List H5} (h : Lk w l) (k : Nat) : Lk w (l.take k) := h.sub fun x hx => List.mem_of_mem_take hx
theorem Lk.drop {w : World} {l : List H5} (h : Lk w l) (k : Nat) : Lk w (l.drop k) := h.sub fun x hx => List.mem_of_mem_drop hx
theorem Lk.append {w : World} {l m : List H5} (h : Lk w l) (k : Lk w m) : Lk w (l ++ m) := fun x hx => by
  rcases List.mem_append.1 hx with hx | hx
  · exact h x hx
  · exact k x hx
theorem Lk.one {w : World} {x : H5} (h : Ms w x.pa x.n x.c x.ms) (hn : x.n ≤ 3074457345618258602) : Lk w [x] := fun y hy => by
  rw [List.mem_singleton] at hy
  subst hy
  exact ⟨h, hn⟩
theorem getD_H (l : List H5) (k : Nat) (hk : k < l.length) : l.getD k zH = l[k] := by
  rw [List.getD_eq_getElem?_getD, List.getElem?_eq_getElem hk]; rfl
theorem Lk.at {w : World} {l : List H5} (h : Lk w l) (k : Nat) (hk : k < l.length) : Ms w (l.getD k zH).pa (l.getD k zH).n (l.getD k zH).c (l.getD k zH).ms ∧ (l.getD k zH).n ≤ 3074457345618258602 := by
  rw [getD_H l k hk]
  exact h _ (List.getElem_mem hk)
theorem getD_mem (l : List H5) (k : Nat) (hk : k < l.length) : l.getD k zH ∈ l := by
  rw [getD_H l k hk]
  exact List.getElem_mem hk
theorem map_at (l : List H5) (k : Nat) (hk : k < l.length) : (l.map h3).getD k zT = h3 (l.getD k zH) := by
  rw [getD_H l k hk, List.getD_eq_getElem?_getD, List.getElem?_map, List.getElem?_eq_getElem hk]
  rfl
theorem Hs.below {w w' : World} {oa : Option Addr} {n cap : Nat} {l : List H5} (h : Hs w oa n cap l) {C : Nat} (hB : Below C w w') (hC : w.heap.size ≤ C) : Hs w' oa n cap l := by
  refine ⟨h.len, h.room, fun i hi => ?_⟩
  obtain ⟨g, o, hg, hc, hc', hc2⟩ := h.cell i hi
  have := World.block_lt_of_cell? w _ hc
  exact ⟨g, o, hg, (hB.cell (p := ⟨g, o + i * 3, none⟩) (Nat.lt_of_lt_of_le this hC)).trans hc, (hB.cell (p := ⟨g, o + i * 3 + 1, none⟩) (Nat.lt_of_lt_of_le this hC)).trans hc', (hB.cell (p := ⟨g, o + i * 3 + 2, none⟩) (Nat.lt_of_lt_of_le this hC)).trans hc2⟩
theorem Hs.nil (w : World) (cap : Nat) (oa : Option Addr) : Hs w oa 0 cap [] := ⟨rfl, Nat.zero_le _, fun i hi => absurd hi (by omega)⟩
theorem Hs.take {w : World} {oa : Option Addr} {n cap i : Nat} {l : List H5} (h : Hs w oa n cap l) (hi : i ≤ n) : Hs w oa i cap (l.take i) := by
  refine ⟨by rw [List.length_take, h.len]; omega, by have := h.room; omega, fun j hj => ?_⟩
  obtain ⟨g, o, e, h1⟩ := h.cell j (by omega)
  have e2 : (l.take i).getD j zH = l.getD j zH := by rw [List.getD_eq_getElem?_getD, List.getD_eq_getElem?_getD, List.getElem?_take_of_lt hj]
  rw [e2]
  exact ⟨g, o, e, h1⟩
theorem takeH_next (l : List H5) (k : Nat) (hk : k < l.length) : l.take (k + 1) = l.take k ++ [l.getD k zH] := by
  rw [List.take_succ_eq_append_getElem hk, getD_H l k hk]
/-- hushes as cells, one behind the other -/
def cellsH (l : List H5) : List Value := l.flatMap cH
theorem cellsH_length (l : List H5) : (cellsH l).length = l.length * 3 := by
  induction l with
  | nil => rfl
  | cons x l ih => simp only [cellsH, List.flatMap_cons, List.length_append, List.length_cons, cH, List.length_nil] at *; omega
theorem cellsH_append (l m : List H5) : cellsH (l ++ m) = cellsH l ++ cellsH m := by unfold cellsH; simp
theorem cellsH_snoc (l : List H5) (x : H5) : cellsH (l ++ [x]) = cellsH l ++ cH x := by rw [cellsH_append]; simp [cellsH]
theorem cH_one (x : H5) : ∀ u ∈ cH x, u.oneCell' = true := by
  intro u hu
  unfold cH at hu
  simp only [List.mem_cons, List.not_mem_nil, or_false] at hu
  rcases hu with rfl | rfl | rfl <;> rfl
theorem cellsH_one (l : List H5) : ∀ u ∈ cellsH l, u.oneCell' = true := by
  intro u hu
  unfold cellsH at hu
  obtain ⟨x, _, hx⟩ := List.mem_flatMap.1 hu
  exact cH_one x u hx
theorem cellsH_at (l : List H5) : ∀ i, i < l.length → (cellsH l)[i * 3]? = some (.int .i64 (l.getD i zH).f) ∧ (cellsH l)[i * 3 + 1]? = some (.int .i64 (l.getD i zH).t) ∧ (cellsH l)[i * 3 + 2]? = some (.slice (l.getD i zH).pa (l.getD i zH).n (l.getD i zH).c) := by
  induction l with
  | nil => intro i hi; simp at hi
  | cons x l ih =>
    intro i hi
    have e : cellsH (x :: l) = .int .i64 x.f :: .int .i64 x.t :: .slice x.pa x.n x.c :: cellsH l := rfl
    rw [e]
    cases i with
    | zero => exact ⟨rfl, rfl, rfl⟩
    | succ i =>
      have := ih i (by simpa using hi)
      rw [show (i + 1) * 3 = i * 3 + 1 + 1 + 1 from by omega]
      simpa using this
theorem infoHsh : (Try.prog.info? 25).map (fun i => (i.zero, i.size, i.bytes)) = some (some (.agg #[.int .i64 0, .int .i64 0, .slice none 0 0]), 3, 40) := by kernel_rfl
theorem Hs.of_own {w : World} {base : Nat} {v : Value} {n : Nat} {xs : List H5} (hl : xs.length = n) (h : w.ownsRow base 25 3 v n (cellsH xs)) :
    ∃ oa cap, v = .slice oa n cap ∧ Hs w oa n cap xs ∧ cap ≤ maxLen := by
  rcases h.2 with ⟨rfl, rfl⟩ | ⟨g, cap, cur, rfl, hb, hg, hnc, hm, hcs, htk⟩
  · exact ⟨none, 0, rfl, ⟨hl, Nat.le_refl _, fun i hi => absurd hi (by omega)⟩, by unfold maxLen; omega⟩
  · refine ⟨_, cap, rfl, ⟨hl, hnc, fun i hi => ⟨g, 0, rfl, ?_, ?_, ?_⟩⟩, hm⟩
    · have := (cellsH_at xs i (by omega)).1
      rw [← htk, List.getElem?_take, if_pos (by omega)] at this
      simpa [World.cell?, hg] using this
    · have := (cellsH_at xs i (by omega)).2.1
      rw [← htk, List.getElem?_take, if_pos (by omega)] at this
      simpa [World.cell?, hg] using this
    · have := (cellsH_at xs i (by omega)).2.2
      rw [← htk, List.getElem?_take, if_pos (by omega)] at this
      simpa [World.cell?, hg] using this
theorem Hs.news {w : World} {ad : Addr} {n cap : Nat} {l : List H5} (h : Hs w (some ad) n cap l) : ∀ j u, (cellsH l)[j]? = some u → w.cell? (ad.add j) = some u := by
  intro j u hj
  have hlt : j < l.length * 3 := by
    have := (List.getElem?_eq_some_iff.1 hj).1
    rwa [cellsH_length] at this
  have hl := h.len
  obtain ⟨g, o, e, h1, h2, h3⟩ := h.cell (j / 3) (by omega)
  cases e
  obtain ⟨q1, q2, q3⟩ := cellsH_at l (j / 3) (by omega)
  rw [Addr.add_lit]
  rcases (show j % 3 = 0 ∨ j % 3 = 1 ∨ j % 3 = 2 by omega) with h0 | h0 | h0
  · rw [show j / 3 * 3 = j from by omega] at q1 h1
    rw [h1, ← q1, hj]
  · rw [show j / 3 * 3 + 1 = j from by omega] at q2
    rw [show o + j / 3 * 3 + 1 = o + j from by omega] at h2
    rw [h2, ← q2, hj]
  · rw [show j / 3 * 3 + 2 = j from by omega] at q3
    rw [show o + j / 3 * 3 + 2 = o + j from by omega] at h3
    rw [h3, ← q3, hj]
/-- a row of one hush that was just laid -/
theorem Hs.one (w : World) (x : H5) : Hs (w.alloc (.cells (vH x) 25)) (some ⟨w.heap.size, 0, none⟩) 1 1 [x] := by
  refine ⟨rfl, Nat.le_refl _, fun i hi => ⟨w.heap.size, 0, rfl, ?_⟩⟩
  obtain rfl : i = 0 := by omega
  simp
theorem appendH_none (w : World) (ty : TypeId) (i : TypeInfo) (hi : Try.prog.info? 25 = some i) (oa : Option Addr) (n cap c : Nat) (h : n ≤ cap) (hnil : oa = none → n = 0 ∧ cap = 0) :
    (Builtin.append_ #[22, 22] ty #[.slice oa n cap, .slice none 0 c]).run Try.prog w = .ok (.slice oa n cap) w := by
  cases oa with
  | none =>
    obtain ⟨rfl, rfl⟩ := hnil rfl
    simp [Builtin.append_, run_underlying Try.underlying22, sizeOf, typeInfo, hi, Builtin.lenOf, Builtin.firstCells]
  | some ad => simp [Builtin.append_, run_underlying Try.underlying22, sizeOf, typeInfo, hi, Builtin.lenOf, Builtin.firstCells, h, storeCells]
theorem wp_append_hs (w : World) {o : Oper} {a : Act} {K : Act → World → Prop} {Q : Exit → Act → World → Prop} (s x : Operand)
    (ho : o.op = .call { callee := .builtin .append, args := #[s, x], argTypes := #[22, 22] }) (base : Nat) {v : Value} {n : Nat} {xs : List Value} (hs : a.eval s = v)
    (hown : w.ownsRow base 25 3 v n xs) {ox : Option Addr} {m c : Nat} {ds : List H5} (hx : a.eval x = .slice ox m c) (hD : Hs w ox m c ds) (hn : n + m ≤ 1000000) (hbase : base ≤ w.heap.size)
    (h : ∀ v' w', w'.ownsRow base 25 3 v' (n + m) (xs ++ cellsH ds) → w.grownBy w' v.ownBlock → K (a.put o.dst v') w') : o.wp Try.prog a w K Q := by
  obtain ⟨i0, hi, hz0, hz1, hz2⟩ := info_parts infoHsh
  cases ox with
  | none =>
    have hm0 : m = 0 := by
      rcases Nat.eq_zero_or_pos m with h0 | h0
      · exact h0
      · obtain ⟨g, o, e, _⟩ := hD.cell 0 h0
        cases e
    subst hm0
    have hds : ds = [] := List.eq_nil_of_length_eq_zero hD.len
    subst hds
    have hk := h v w (by simpa [cellsH] using hown) (World.grownBy.refl w _)
    rcases hown.2 with ⟨rfl, rfl⟩ | ⟨g, cap, cur, rfl, hb, hg, hnc, _⟩
    · have hrun := appendH_none w o.type i0 hi none 0 0 c (Nat.le_refl _) (fun _ => ⟨rfl, rfl⟩)
      unfold Oper.wp
      simp [execOp, ho, resolve, invoke, builtin, hs, hx, hrun, Result.andThen]
      exact hk
    · have hrun := appendH_none w o.type i0 hi (some ⟨g, 0, none⟩) n cap c hnc (fun e => by cases e)
      unfold Oper.wp
      simp [execOp, ho, resolve, invoke, builtin, hs, hx, hrun, Result.andThen]
      exact hk
  | some ad =>
    exact wp_append_own w s x 22 ho base 25 i0 _ 3 40 Try.underlying22 hi hz0 hz1 hz2 rfl (by decide) v n xs hs hown ad m c (cellsH ds) hx (by rw [cellsH_length, hD.len]) hD.news (cellsH_one ds) (by unfold maxLen; omega) (by omega) hbase (fun v' w' h1 h2 _ => h v' w' h1 h2)
theorem step_append_hs (w : World) {ops : Array Oper} {o : Oper} {a : Act} {K : Act → World → Prop} {Q : Exit → Act → World → Prop} {E : Prop} (hw : Region.wanted o (yielded ops a.tmps) = true) (s x : Operand)
    (ho : o.op = .call { callee := .builtin .append, args := #[s, x], argTypes := #[22, 22] }) (base : Nat) {v : Value} {n : Nat} {xs : List Value} (hs : a.eval s = v)
    (hown : w.ownsRow base 25 3 v n xs) {ox : Option Addr} {m c : Nat} {ds : List H5} (hx : a.eval x = .slice ox m c) (hD : Hs w ox m c ds) (hn : n + m ≤ 1000000) (hbase : base ≤ w.heap.size)
    (h : ∀ v' w', w'.ownsRow base 25 3 v' (n + m) (xs ++ cellsH ds) → w.grownBy w' v.ownBlock → K (a.put o.dst v') w') : if Region.wanted o (yielded ops a.tmps) = true then Oper.wp Try.prog o a w K Q else E := by
  rw [if_pos hw]
  exact wp_append_hs w s x ho base hs hown hx hD hn hbase h
theorem wpList_append_hs (w : World) {ops : Array Oper} {rest : List Oper} {o : Oper} {a : Act} {Q : Exit → Act → World → Prop} (hw : Region.wanted o (yielded ops a.tmps) = true) (s x : Operand)
    (ho : o.op = .call { callee := .builtin .append, args := #[s, x], argTypes := #[22, 22] }) (base : Nat) {v : Value} {n : Nat} {xs : List Value} (hs : a.eval s = v)
    (hown : w.ownsRow base 25 3 v n xs) {ox : Option Addr} {m c : Nat} {ds : List H5} (hx : a.eval x = .slice ox m c) (hD : Hs w ox m c ds) (hn : n + m ≤ 1000000) (hbase : base ≤ w.heap.size)
    (h : ∀ v' w', w'.ownsRow base 25 3 v' (n + m) (xs ++ cellsH ds) → w.grownBy w' v.ownBlock → wpList Try.prog ops Q rest (a.put o.dst v') w') : wpList Try.prog ops Q (o :: rest) a w := by
  refine wpList_step fun K hK => ?_
  rw [if_pos hw]
  exact wp_append_hs w s x ho base hs hown hx hD hn hbase (fun v' w' h1 h2 => hK _ _ (h v' w' h1 h2))
/-- what is kept where it lies -/
theorem keepR {w w' : World} {a : Addr} {v : Value} (hB : Below w.heap.size w w') (h : w.cell? a = some v) : w'.cell? a = some v := (hB.cell (World.block_lt_of_cell? _ _ h)).trans h
theorem own_keep {w w' : World} {base : Nat} {e : TypeId} {size : Nat} {v : Value} {n : Nat} {xs : List Value} (h : w.ownsRow base e size v n xs) (hB : Below w.heap.size w w') : w'.ownsRow base e size v n xs := by
  refine ⟨h.1, ?_⟩
  rcases h.2 with h2 | ⟨g, cap, cur, h3, h4, h5, h6⟩
  · exact .inl h2
  · exact .inr ⟨g, cap, cur, h3, h4, (hB.block g (Array.getElem?_eq_some_iff.1 h5).1).trans h5, h6⟩
theorem own_base {w : World} {base base' : Nat} {e : TypeId} {s : Nat} {v : Value} {n : Nat} {xs : List Value} (h : w.ownsRow base e s v n xs) (hb : base' ≤ base) : w.ownsRow base' e s v n xs := by
  refine ⟨h.1, ?_⟩
  rcases h.2 with h2 | ⟨g, cap, cur, h3, h4, h5⟩
  · exact .inl h2
  · exact .inr ⟨g, cap, cur, h3, by omega, h5⟩
end Go.Proofs.Ytkckdombcnifnaa
