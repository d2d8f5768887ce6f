/-
  Configs in memory: rows of numbers, of receivers and of routes, that lie at slices, or are one's own and grow.
-/
import Derived.Test.YtaiacohnhhicpaaCfgM
import Derived.Test.YtaiacohnhhicpaaWirX
import Derived.OwnWalk
import Derived.Maps.AppendAt
import Derived.Lib.SliceRun
import Derived.Deep.AppendLies
import Derived.Deep.RegionLaw
namespace Go.Proofs.Ytaiacohnhhicpaa
open Go.RowKit Go.Shelf
set_option linter.unusedVariables false

/-- the numbers xs lie at a slice of length n -/
structure Ns (w : World) (oa : Option Addr) (n cap : Nat) (xs : List Int) : Prop where
  len : xs.length = n
  room : n ≤ cap
  cell : ∀ i, i < n → ∃ g o, oa = some ⟨g, o, none⟩ ∧ w.cell? ⟨g, o + i, none⟩ = some (.int .i64 (xs.getD i 0))
theorem Ns.below {w w' : World} {oa : Option Addr} {n cap : Nat} {xs : List Int} (h : Ns w oa n cap xs) {C : Nat} (hB : Below C w w') (hC : w.heap.size ≤ C) : Ns w' oa n cap xs := by
  refine ⟨h.len, h.room, fun i hi => ?_⟩
  obtain ⟨g, o, hg, hc⟩ := h.cell i hi
  have := World.block_lt_of_cell? w _ hc
  exact ⟨g, o, hg, (hB.cell (p := ⟨g, o + i, none⟩) (Nat.lt_of_lt_of_le this hC)).trans hc⟩
theorem Ns.nil (w : World) : Ns w none 0 0 [] := ⟨rfl, Nat.le_refl _, fun i hi => absurd hi (by omega)⟩
theorem getD_at (xs : List Int) (k : Nat) (hk : k < xs.length) : xs.getD k 0 = xs[k] := by
  rw [List.getD_eq_getElem?_getD, List.getElem?_eq_getElem hk]; rfl
theorem grown_of_below {w w' : World} (h : Below w.heap.size w w') : w.grownBy w' none := ⟨h.os, h.tape, h.output, h.size, fun i hi _ => h.block i hi⟩
theorem infoInt : (Try.prog.info? 3).map (fun i => (i.zero, i.size, i.bytes)) = some (some (.int .i64 0), 1, 8) := by kernel_rfl
/-- numbers as cells -/
def nCells (l : List Int) : List Value := l.map (fun x => Value.int .i64 x)
theorem nCells_length (l : List Int) : (nCells l).length = l.length := by unfold nCells; rw [List.length_map]
theorem nCells_snoc (l : List Int) (x : Int) : nCells (l ++ [x]) = nCells l ++ [.int .i64 x] := by unfold nCells; rw [List.map_append]; rfl
theorem nCells_at (l : List Int) (i : Nat) (h : i < l.length) : (nCells l)[i]? = some (.int .i64 (l.getD i 0)) := by
  unfold nCells
  rw [List.getElem?_map, List.getD_eq_getElem?_getD, List.getElem?_eq_getElem h]
  rfl
theorem Ns.of_own {w : World} {base : Nat} {v : Value} {n : Nat} {xs : List Int} (hl : xs.length = n) (h : w.ownsRow base 3 1 v n (nCells xs)) :
    ∃ oa cap, v = .slice oa n cap ∧ Ns w oa n cap xs := by
  rcases h.2 with ⟨rfl, rfl⟩ | ⟨g, cap, cur, rfl, hb, hg, hnc, _, hcs, htk⟩
  · exact ⟨none, 0, rfl, ⟨hl, Nat.le_refl _, fun i hi => absurd hi (by omega)⟩⟩
  · refine ⟨_, cap, rfl, hl, hnc, fun i hi => ⟨g, 0, rfl, ?_⟩⟩
    have := nCells_at xs i (by omega)
    rw [← htk, List.getElem?_take, if_pos (by omega)] at this
    rw [Nat.zero_add, cell_of_row w g i cur _ _ hg]
    simpa using this
theorem oneN_new (w : World) (v : Value) (t : TypeId) : ∀ (j : Nat) (u : Value), [v][j]? = some u → (w.alloc (.cells #[v] t)).cell? ((⟨w.heap.size, 0, none⟩ : Addr).add j) = some u := by
  intro j u hj
  match j, hj with
  | 0, hj =>
    simp at hj
    subst hj
    exact World.cell?_alloc_at _ _ _ _ rfl
theorem oneN_cell (x : Int) : ∀ u ∈ [Value.int .i64 x], u.oneCell' = true := by
  intro u hu
  simp at hu
  subst hu
  rfl

/-- receivers -/
def cR (r : R9) : List Value := [.string r.nm, .int .i64 r.ba, .int .i64 r.tp, .int .i64 r.ji, .int .i64 r.tr, .int .i64 r.fa, .int .i64 r.op, .int .i64 r.bu, .int .i64 r.ev]
abbrev vR (r : R9) : Array Value := #[.string r.nm, .int .i64 r.ba, .int .i64 r.tp, .int .i64 r.ji, .int .i64 r.tr, .int .i64 r.fa, .int .i64 r.op, .int .i64 r.bu, .int .i64 r.ev]
abbrev aggR (r : R9) : Value := .agg (vR r)
/-- the receivers l lie at a slice of length n -/
structure Rs (w : World) (oa : Option Addr) (n cap : Nat) (l : List R9) : Prop where
  len : l.length = n
  room : n ≤ cap
  cell : ∀ i, i < n → ∃ g o, oa = some ⟨g, o, none⟩ ∧ ∀ j v, (cR (l.getD i zR))[j]? = some v → w.cell? ⟨g, o + i * 9 + j, none⟩ = some v
theorem Rs.nine {w : World} {oa : Option Addr} {n cap : Nat} {l : List R9} (h : Rs w oa n cap l) (i : Nat) (hi : i < n) : ∃ g o, oa = some ⟨g, o, none⟩ ∧ w.cell? ⟨g, o + i * 9, none⟩ = some (.string (l.getD i zR).nm) ∧
    w.cell? ⟨g, o + i * 9 + 1, none⟩ = some (.int .i64 (l.getD i zR).ba) ∧ w.cell? ⟨g, o + i * 9 + 2, none⟩ = some (.int .i64 (l.getD i zR).tp) ∧ w.cell? ⟨g, o + i * 9 + 3, none⟩ = some (.int .i64 (l.getD i zR).ji) ∧
    w.cell? ⟨g, o + i * 9 + 4, none⟩ = some (.int .i64 (l.getD i zR).tr) ∧ w.cell? ⟨g, o + i * 9 + 5, none⟩ = some (.int .i64 (l.getD i zR).fa) ∧ w.cell? ⟨g, o + i * 9 + 6, none⟩ = some (.int .i64 (l.getD i zR).op) ∧
    w.cell? ⟨g, o + i * 9 + 7, none⟩ = some (.int .i64 (l.getD i zR).bu) ∧ w.cell? ⟨g, o + i * 9 + 8, none⟩ = some (.int .i64 (l.getD i zR).ev) := by
  obtain ⟨g, o, e, hc⟩ := h.cell i hi
  exact ⟨g, o, e, hc 0 _ rfl, hc 1 _ rfl, hc 2 _ rfl, hc 3 _ rfl, hc 4 _ rfl, hc 5 _ rfl, hc 6 _ rfl, hc 7 _ rfl, hc 8 _ rfl⟩
theorem Rs.below {w w' : World} {oa : Option Addr} {n cap : Nat} {l : List R9} (h : Rs w oa n cap l) {C : Nat} (hB : Below C w w') (hC : w.heap.size ≤ C) : Rs w' oa n cap l := by
  refine ⟨h.len, h.room, fun i hi => ?_⟩
  obtain ⟨g, o, hg, hc⟩ := h.cell i hi
  refine ⟨g, o, hg, fun j v hj => ?_⟩
  have h1 := hc j v hj
  have := World.block_lt_of_cell? w _ h1
  exact (hB.cell (Nat.lt_of_lt_of_le this hC)).trans h1
theorem Rs.nil (w : World) (cap : Nat) (oa : Option Addr) : Rs w oa 0 cap [] := ⟨rfl, Nat.zero_le _, fun i hi => absurd hi (by omega)⟩
theorem Rs.take {w : World} {oa : Option Addr} {n cap i : Nat} {l : List R9} (h : Rs w oa n cap l) (hi : i ≤ n) : Rs w oa i cap (l.take i) := by
  refine ⟨by rw [List.length_take, h.len]; omega, by have := h.room; omega, fun j hj => ?_⟩
  obtain ⟨g, o, e, h1⟩ := h.cell j (by omega)
  refine ⟨g, o, e, ?_⟩
  have e2 : (l.take i).getD j zR = l.getD j zR := by rw [List.getD_eq_getElem?_getD, List.getD_eq_getElem?_getD, List.getElem?_take_of_lt hj]
  rw [e2]
  exact h1
def cellsR (l : List R9) : List Value := l.flatMap cR
theorem cellsR_length (l : List R9) : (cellsR l).length = l.length * 9 := by
  induction l with
  | nil => rfl
  | cons x l ih => simp only [cellsR, List.flatMap_cons, List.length_append, List.length_cons, cR, List.length_nil] at *; omega
theorem cellsR_append (l m : List R9) : cellsR (l ++ m) = cellsR l ++ cellsR m := by unfold cellsR; simp
theorem cellsR_snoc (l : List R9) (r : R9) : cellsR (l ++ [r]) = cellsR l ++ cR r := by rw [cellsR_append]; simp [cellsR]
theorem cR_one (r : R9) : ∀ u ∈ cR r, u.oneCell' = true := by
  intro u hu
  unfold cR at hu
  simp only [List.mem_cons, List.not_mem_nil, or_false] at hu
  rcases hu with rfl | rfl | rfl | rfl | rfl | rfl | rfl | rfl | rfl <;> rfl
theorem cellsR_at (l : List R9) : ∀ i j v, i < l.length → (cR (l.getD i zR))[j]? = some v → (cellsR l)[i * 9 + j]? = some v := by
  induction l with
  | nil => intro i j v hi; simp at hi
  | cons x l ih =>
    intro i j v hi hj
    have e : cellsR (x :: l) = cR x ++ cellsR l := rfl
    have hx : (cR x).length = 9 := rfl
    rw [e]
    cases i with
    | zero =>
      have hj9 : j < (cR x).length := (List.getElem?_eq_some_iff.1 hj).1
      rw [Nat.zero_mul, Nat.zero_add, List.getElem?_append_left hj9]
      exact hj
    | succ i =>
      rw [List.getElem?_append_right (by rw [hx]; omega), hx, show (i + 1) * 9 + j - 9 = i * 9 + j from by omega]
      exact ih i j v (by simpa using hi) hj
theorem infoR : (Try.prog.info? 47).map (fun i => (i.zero, i.size, i.bytes)) = some (some (.agg #[.string ByteArray.empty, .int .i64 0, .int .i64 0, .int .i64 0, .int .i64 0, .int .i64 0, .int .i64 0, .int .i64 0, .int .i64 0]), 9, 80) := by kernel_rfl
theorem Rs.of_own {w : World} {base : Nat} {v : Value} {n : Nat} {xs : List R9} (hl : xs.length = n) (h : w.ownsRow base 47 9 v n (cellsR xs)) :
    ∃ oa cap, v = .slice oa n cap ∧ Rs w oa n cap xs ∧ cap ≤ maxLen := by
  rcases h.2 with ⟨rfl, rfl⟩ | ⟨g, cap, cur, rfl, hb, hg, hnc, hm, hcs, htk⟩
  · exact ⟨none, 0, rfl, ⟨hl, Nat.le_refl _, fun i hi => absurd hi (by omega)⟩, by unfold maxLen; omega⟩
  · refine ⟨_, cap, rfl, ⟨hl, hnc, fun i hi => ⟨g, 0, rfl, fun j u hj => ?_⟩⟩, hm⟩
    have hj9 : j < 9 := (List.getElem?_eq_some_iff.1 hj).1
    have := cellsR_at xs i j u (by omega) hj
    rw [← htk, List.getElem?_take, if_pos (by omega)] at this
    rw [Nat.zero_add, cell_of_row w g (i * 9 + j) cur _ _ hg]
    simpa using this
theorem wpList_append_rc (w : World) {ops : Array Oper} {rest : List Oper} {o : Oper} {a : Act} {Q : Exit → Act → World → Prop} (hw : Region.wanted o (yielded ops a.tmps) = true) (s x : Operand)
    (ho : o.op = .call { callee := .builtin .append, args := #[s, x], argTypes := #[30, 30] }) (base : Nat) {v : Value} {n : Nat} {xs : List Value} (hs : a.eval s = v)
    (hown : w.ownsRow base 47 9 v n xs) {ad : Addr} {c : Nat} {r : R9} (hx : a.eval x = .slice (some ad) 1 c) (hnews : ∀ j u, (cR r)[j]? = some u → w.cell? (ad.add j) = some u) (hn : n ≤ 1000) (hbase : base ≤ w.heap.size)
    (h : ∀ v' w', w'.ownsRow base 47 9 v' (n + 1) (xs ++ cR r) → w.grownBy w' v.ownBlock → wpList Try.prog ops Q rest (a.put o.dst v') w') : wpList Try.prog ops Q (o :: rest) a w := by
  obtain ⟨i0, hi, hz0, hz1, hz2⟩ := info_parts infoR
  refine wpList_step fun K hK => ?_
  rw [if_pos hw]
  exact wp_append_own w s x 30 ho base 47 i0 _ 9 80 Try.underlying30 hi hz0 hz1 hz2 rfl (by decide) v n xs hs hown ad 1 c (cR r) hx rfl hnews (cR_one r) (by unfold maxLen; omega) (by omega) hbase (fun v' w' h1 h2 _ => hK _ _ (h v' w' h1 h2))
/-- routes -/
abbrev zT : T2 := ([], [])
abbrev zQ : Value × Value := (.slice none 0 0, .slice none 0 0)
structure Qs (w : World) (oa : Option Addr) (n cap : Nat) (l : List T2) : Prop where
  len : l.length = n
  room : n ≤ cap
  cell : ∀ i, i < n → ∃ (g o : Nat) (pa : Option Addr) (n1 c1 : Nat) (pb : Option Addr) (n2 c2 : Nat), oa = some ⟨g, o, none⟩ ∧ w.cell? ⟨g, o + i * 2, none⟩ = some (.slice pa n1 c1) ∧ w.cell? ⟨g, o + i * 2 + 1, none⟩ = some (.slice pb n2 c2) ∧ Ns w pa n1 c1 (l.getD i zT).1 ∧ Ms w pb n2 c2 (l.getD i zT).2
theorem Qs.below {w w' : World} {oa : Option Addr} {n cap : Nat} {l : List T2} (h : Qs w oa n cap l) {C : Nat} (hB : Below C w w') (hC : w.heap.size ≤ C) : Qs w' oa n cap l := by
  refine ⟨h.len, h.room, fun i hi => ?_⟩
  obtain ⟨g, o, pa, n1, c1, pb, n2, c2, hg, h1, h2, h3, h4⟩ := h.cell i hi
  have b1 := World.block_lt_of_cell? w _ h1
  have b2 := World.block_lt_of_cell? w _ h2
  exact ⟨g, o, pa, n1, c1, pb, n2, c2, hg, (hB.cell (Nat.lt_of_lt_of_le b1 hC)).trans h1, (hB.cell (Nat.lt_of_lt_of_le b2 hC)).trans h2, h3.below hB hC, h4.below hB hC⟩
theorem Qs.nil (w : World) (cap : Nat) (oa : Option Addr) : Qs w oa 0 cap [] := ⟨rfl, Nat.zero_le _, fun i hi => absurd hi (by omega)⟩
def cellsQ (l : List (Value × Value)) : List Value := l.flatMap fun q => [q.1, q.2]
theorem cellsQ_length (l : List (Value × Value)) : (cellsQ l).length = l.length * 2 := by
  induction l with
  | nil => rfl
  | cons x l ih => simp only [cellsQ, List.flatMap_cons, List.length_append, List.length_cons, List.length_nil] at *; omega
theorem cellsQ_snoc (l : List (Value × Value)) (q : Value × Value) : cellsQ (l ++ [q]) = cellsQ l ++ [q.1, q.2] := by unfold cellsQ; simp
theorem cellsQ_at (l : List (Value × Value)) : ∀ i, i < l.length → (cellsQ l)[i * 2]? = some (l.getD i zQ).1 ∧ (cellsQ l)[i * 2 + 1]? = some (l.getD i zQ).2 := by
  induction l with
  | nil => intro i hi; simp at hi
  | cons x l ih =>
    intro i hi
    have e : cellsQ (x :: l) = x.1 :: x.2 :: cellsQ l := rfl
    rw [e]
    cases i with
    | zero => exact ⟨rfl, rfl⟩
    | succ i =>
      have := ih i (by simpa using hi)
      rw [show (i + 1) * 2 = i * 2 + 1 + 1 from by omega]
      simpa using this
theorem infoQ : (Try.prog.info? 43).map (fun i => (i.zero, i.size, i.bytes)) = some (some (.agg #[.slice none 0 0, .slice none 0 0]), 2, 48) := by kernel_rfl
/-- routes of one's own, with their parts -/
structure Own2 (w : World) (base : Nat) (v : Value) (l : List T2) (qs : List (Value × Value)) : Prop where
  own : w.ownsRow base 43 2 v l.length (cellsQ qs)
  len : qs.length = l.length
  part : ∀ i, i < l.length → w.ownsRow base 3 1 (qs.getD i zQ).1 (l.getD i zT).1.length (nCells (l.getD i zT).1) ∧ w.ownsRow base 84 3 (qs.getD i zQ).2 (l.getD i zT).2.length (cellsM (l.getD i zT).2)
theorem Own2.lies {w : World} {base : Nat} {v : Value} {l : List T2} {qs : List (Value × Value)} (h : Own2 w base v l qs) : ∃ oa cap, v = .slice oa l.length cap ∧ Qs w oa l.length cap l ∧ cap ≤ maxLen := by
  have hl := h.len
  rcases h.own.2 with ⟨e, h0⟩ | ⟨g, cap, cur, e, hb, hg, hnc, hm, hcs, htk⟩
  · exact ⟨none, 0, by rw [e, h0], ⟨rfl, by omega, fun i hi => absurd hi (by omega)⟩, by unfold maxLen; omega⟩
  · refine ⟨_, cap, e, ⟨rfl, hnc, fun i hi => ?_⟩, hm⟩
    obtain ⟨p1, p2⟩ := h.part i hi
    obtain ⟨pa, c1, e1, l1⟩ := Ns.of_own rfl p1
    obtain ⟨pb, c2, e2, l2, _⟩ := Ms.of_own rfl p2
    obtain ⟨k1, k2⟩ := cellsQ_at qs i (by omega)
    rw [← htk, List.getElem?_take, if_pos (by omega), e1] at k1
    rw [← htk, List.getElem?_take, if_pos (by omega), e2] at k2
    refine ⟨g, 0, pa, _, c1, pb, _, c2, rfl, ?_, ?_, l1, l2⟩
    · rw [Nat.zero_add, cell_of_row w g (i * 2) cur _ _ hg]
      simpa using k1
    · rw [Nat.zero_add, cell_of_row w g (i * 2 + 1) cur _ _ hg]
      simpa using k2
theorem Own2.nil (w : World) (base : Nat) : Own2 w base (.slice none 0 0) [] [] := ⟨World.ownsRow_nil _ _ _ _, rfl, fun i hi => absurd hi (by simp)⟩
/-- rows of unlike elements lie in unlike blocks -/
theorem own_other {w w' : World} {b1 b2 : Nat} {e1 e2 : TypeId} {s1 s2 : Nat} {v1 v2 : Value} {n1 n2 : Nat} {x1 x2 : List Value} (h1 : w.ownsRow b1 e1 s1 v1 n1 x1) (h2 : w.ownsRow b2 e2 s2 v2 n2 x2) (hne : e1 ≠ e2) (hg : w.grownBy w' v2.ownBlock) : w'.ownsRow b1 e1 s1 v1 n1 x1 := by
  refine h1.kept hg ?_
  rcases h1.2 with ⟨rfl, _⟩ | ⟨g, cap, cur, rfl, hb, hh, _⟩
  · exact .inl rfl
  · right
    rcases h2.2 with ⟨rfl, _⟩ | ⟨g2, cap2, cur2, rfl, hb2, hh2, _⟩
    · simp [Value.ownBlock]
    · intro e
      have e3 : g = g2 := by simpa [Value.ownBlock] using e
      subst e3
      rw [hh] at hh2
      simp at hh2
      exact hne hh2.2
theorem Own2.keep {w w' : World} {base : Nat} {v : Value} {l : List T2} {qs : List (Value × Value)} (h : Own2 w base v l qs) (hB : Below w.heap.size w w') : Own2 w' base v l qs :=
  ⟨own_keep h.own hB, h.len, fun i hi => ⟨own_keep (h.part i hi).1 hB, own_keep (h.part i hi).2 hB⟩⟩
theorem wpList_append_rt (w : World) {ops : Array Oper} {rest : List Oper} {o : Oper} {a : Act} {Q : Exit → Act → World → Prop} (hw : Region.wanted o (yielded ops a.tmps) = true) (s x : Operand)
    (ho : o.op = .call { callee := .builtin .append, args := #[s, x], argTypes := #[31, 31] }) (base : Nat) {v : Value} {n : Nat} {xs : List Value} (hs : a.eval s = v)
    (hown : w.ownsRow base 43 2 v n xs) {ad : Addr} {c : Nat} {pa pb : Option Addr} {n1 c1 n2 c2 : Nat} (hx : a.eval x = .slice (some ad) 1 c) (hnews : ∀ j u, [Value.slice pa n1 c1, .slice pb n2 c2][j]? = some u → w.cell? (ad.add j) = some u) (hn : n ≤ 1000) (hbase : base ≤ w.heap.size)
    (h : ∀ v' w', w'.ownsRow base 43 2 v' (n + 1) (xs ++ [.slice pa n1 c1, .slice pb n2 c2]) → w.grownBy w' v.ownBlock → wpList Try.prog ops Q rest (a.put o.dst v') w') : wpList Try.prog ops Q (o :: rest) a w := by
  obtain ⟨i0, hi, hz0, hz1, hz2⟩ := info_parts infoQ
  refine wpList_step fun K hK => ?_
  rw [if_pos hw]
  exact wp_append_own w s x 31 ho base 43 i0 _ 2 48 Try.underlying31 hi hz0 hz1 hz2 rfl (by decide) v n xs hs hown ad 1 c [.slice pa n1 c1, .slice pb n2 c2] hx rfl hnews (by intro u hu; simp at hu; rcases hu with rfl | rfl <;> rfl) (by unfold maxLen; omega) (by omega) hbase (fun v' w' h1 h2 _ => hK _ _ (h v' w' h1 h2))
/-- one more route -/
theorem Own2.snoc {w w' : World} {base : Nat} {v v' : Value} {l : List T2} {qs : List (Value × Value)} (h : Own2 w base v l qs) {t : T2} {q : Value × Value} (h1 : w.ownsRow base 3 1 q.1 t.1.length (nCells t.1)) (h2 : w.ownsRow base 84 3 q.2 t.2.length (cellsM t.2))
    (hown : w'.ownsRow base 43 2 v' (l.length + 1) (cellsQ qs ++ [q.1, q.2])) (hg : w.grownBy w' v.ownBlock) : Own2 w' base v' (l ++ [t]) (qs ++ [q]) := by
  refine ⟨by rw [cellsQ_snoc]; simpa using hown, by simp [h.len], fun i hi => ?_⟩
  have hl := h.len
  rw [List.length_append, List.length_singleton] at hi
  by_cases hlt : i < l.length
  · have e1 : (l ++ [t]).getD i zT = l.getD i zT := by rw [List.getD_eq_getElem?_getD, List.getD_eq_getElem?_getD, List.getElem?_append_left hlt]
    have e2 : (qs ++ [q]).getD i zQ = qs.getD i zQ := by rw [List.getD_eq_getElem?_getD, List.getD_eq_getElem?_getD, List.getElem?_append_left (by omega)]
    rw [e1, e2]
    exact ⟨own_other (h.part i hlt).1 h.own (by decide) hg, own_other (h.part i hlt).2 h.own (by decide) hg⟩
  · obtain rfl : i = l.length := by omega
    have e1 : (l ++ [t]).getD l.length zT = t := by simp [List.getD_eq_getElem?_getD]
    have e2 : (qs ++ [q]).getD l.length zQ = q := by rw [← hl]; simp [List.getD_eq_getElem?_getD]
    rw [e1, e2]
    exact ⟨own_other h1 h.own (by decide) hg, own_other h2 h.own (by decide) hg⟩
end Go.Proofs.Ytaiacohnhhicpaa
