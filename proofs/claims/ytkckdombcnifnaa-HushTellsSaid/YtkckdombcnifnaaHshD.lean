/-
  Rows of hushes of one's own: copied, taken from, cut down to those that each of some functions takes.
-/
import Derived.Test.YtkckdombcnifnaaHshC
import Derived.Lib.SliceRun
import Derived.Laws.IdiomCopy
import Derived.Maps.RangeWalk
import Derived.OwnWalk
namespace Go.Proofs.Ytkckdombcnifnaa
open Go.RowKit Go.Shelf
set_option linter.unusedVariables false

theorem grown_of_below {w w' : World} (h : Below w.heap.size w w') (row : Option Nat) : w.grownBy w' row := ⟨h.os, h.tape, h.output, h.size, fun i hi _ => h.block i hi⟩
theorem grown_set {a w : World} {b : Nat} (h : a.grownBy w (some b)) (i : Nat) (v : Value) : a.grownBy (w.setCell ⟨b, i, none⟩ v) (some b) := by
  refine ⟨h.os, h.tape, h.output, ?_, fun k hk hne => ?_⟩
  · have := h.size
    simpa using this
  · rw [Below.heap_setCell w ⟨b, i, none⟩ v k (fun e => hne (by rw [e]))]
    exact h.block k hk hne
set_option maxRecDepth 100000 in
set_option maxHeartbeats 1600000 in
theorem cloneH_any (oa : Option Addr) (n cap : Nat) (l : List H5) (w : World) (h : Hs w oa n cap l) (hn : n ≤ 1000000) :
    Calls Try.prog 40 #[.slice oa n cap] w fun e w' => (∃ v, e = .returned v ∧ w'.ownsRow w.heap.size 25 3 v n (cellsH l)) ∧ Below w.heap.size w w' := by
  have q := fun (w : World) (a : Option Addr) (n c n' c' : Nat) => Lib.run_eql_slice_nil (P := Try.prog) w 22 25 a n c n' c' Try.underlying22
  cases oa with
  | none =>
    have hn0 : n = 0 := by
      rcases Nat.eq_zero_or_pos n with h0 | h0
      · exact h0
      · obtain ⟨g, o, e, _⟩ := h.cell 0 h0
        cases e
    subst hn0
    have hl : l = [] := List.eq_nil_of_length_eq_zero h.len
    subst hl
    clear h
    go_enter Try.func40, Try.ntmps40
    go_wp2_with fail
    go_ret
    exact ⟨⟨_, rfl, World.ownsRow_nil _ _ _ _⟩, Below.refl _ _⟩
  | some ad =>
    have B0 := below_alloc w (.cells #[] 25)
    have hH := h.below B0 (Nat.le_refl _)
    have own0 : (w.alloc (.cells #[] 25)).ownsRow w.heap.size 25 3 (.slice (some ⟨w.heap.size, 0, none⟩) 0 0) 0 (cellsH []) := World.ownsRow_made w #[] 0 (Nat.le_refl _) (Nat.zero_le _) rfl
    clear h
    go_enter Try.func40, Try.ntmps40
    go_wp2_with (first | (at_builtin; refine wpList_append_hs _ rfl (.tmp 5) (.tmp 6) rfl w.heap.size rfl own0 rfl hH (by omega) B0.size ?_; intro v1 w1 own1 hg1; have B8 : Below w.heap.size w w1 := B0.grown hg1 B0.size (fun r e => (own0.lt r e).1)))
    rw [Nat.zero_add] at own1
    have own2 : w1.ownsRow w.heap.size 25 3 v1 n (cellsH l) := own1
    clear own1 own0 hg1 hH q
    go_wp2_with fail
    go_ret
    exact ⟨⟨_, rfl, own2⟩, B8⟩

/-- one of them set -/
theorem cellsH_set (l : List H5) : ∀ (i : Nat) (x : H5), i < l.length → cellsH (l.set i x) = (((cellsH l).set (i * 3) (.int .i64 x.f)).set (i * 3 + 1) (.int .i64 x.t)).set (i * 3 + 2) (.slice x.pa x.n x.c) := by
  induction l with
  | nil => intro i x hi; simp at hi
  | cons y l ih =>
    intro i x hi
    have e : ∀ z : H5, cellsH (z :: l) = .int .i64 z.f :: .int .i64 z.t :: .slice z.pa z.n z.c :: cellsH l := fun _ => rfl
    have e' : ∀ (z : H5) (m : List H5), cellsH (z :: m) = .int .i64 z.f :: .int .i64 z.t :: .slice z.pa z.n z.c :: cellsH m := fun _ _ => rfl
    cases i with
    | zero => rw [List.set_cons_zero, e, e]; rfl
    | succ i =>
      rw [List.set_cons_succ, e', e, ih i x (by simpa using hi), show (i + 1) * 3 = i * 3 + 1 + 1 + 1 from by omega]
      rfl
theorem own_setH {w : World} {base g n cap : Nat} {l : List H5} (hl : l.length = n) (h : w.ownsRow base 25 3 (.slice (some ⟨g, 0, none⟩) n cap) n (cellsH l)) (i : Nat) (hi : i < n) (x : H5) :
    (((w.setCell ⟨g, i * 3, none⟩ (.int .i64 x.f)).setCell ⟨g, i * 3 + 1, none⟩ (.int .i64 x.t)).setCell ⟨g, i * 3 + 2, none⟩ (.slice x.pa x.n x.c)).ownsRow base 25 3 (.slice (some ⟨g, 0, none⟩) n cap) n (cellsH (l.set i x)) := by
  rcases h.2 with ⟨e, _⟩ | ⟨g', cap', cur, e, hb, hg, hnc, hm, hcs, htk⟩
  · cases e
  · cases e
    refine ⟨by rw [cellsH_length, List.length_set, hl], .inr ⟨g, cap, ((cur.set! (i * 3) (.int .i64 x.f)).set! (i * 3 + 1) (.int .i64 x.t)).set! (i * 3 + 2) (.slice x.pa x.n x.c), rfl, hb, ?_, hnc, hm, by simpa using hcs, ?_⟩⟩
    · exact heap_setCell_same _ _ _ _ _ _ (heap_setCell_same _ _ _ _ _ _ (heap_setCell_same _ _ _ _ _ _ hg))
    · rw [cellsH_set l i x (by omega), ← htk]
      simp [List.take_set]
/-- the first ones of it -/
theorem own_takeH {w : World} {base g n cap : Nat} {l : List H5} (hl : l.length = n) (h : w.ownsRow base 25 3 (.slice (some ⟨g, 0, none⟩) n cap) n (cellsH l)) (i : Nat) (hi : i ≤ n) :
    w.ownsRow base 25 3 (.slice (some ⟨g, 0, none⟩) i cap) i (cellsH (l.take i)) := by
  rcases h.2 with ⟨e, _⟩ | ⟨g', cap', cur, e, hb, hg, hnc, hm, hcs, htk⟩
  · cases e
  · cases e
    have hc : cellsH l = cellsH (l.take i) ++ cellsH (l.drop i) := by rw [← cellsH_append, List.take_append_drop]
    have hlen : (cellsH (l.take i)).length = i * 3 := by rw [cellsH_length, List.length_take, hl, Nat.min_eq_left hi]
    refine ⟨hlen, .inr ⟨g, cap, cur, rfl, hb, hg, by omega, hm, hcs, ?_⟩⟩
    rw [hc] at htk
    have := congrArg (List.take (i * 3)) htk
    rw [List.take_take, Nat.min_eq_left (by omega), List.take_append_of_le_length (by omega), List.take_of_length_le (l := cellsH (l.take i)) (by omega)] at this
    exact this
theorem setCells_block {g : Nat} {T : TypeId} : ∀ (vs : List Value) (o : Nat) (w : World) (cur : Array Value), w.heap[g]? = some (.cells cur T (0, 0)) → ∃ c2 : Array Value, (w.setCells g o vs).heap[g]? = some (.cells c2 T (0, 0)) ∧ c2.size = cur.size ∧ ∀ k, k ≤ o → c2.toList.take k = cur.toList.take k
  | [], o, w, cur, h => ⟨cur, h, rfl, fun _ _ => rfl⟩
  | v :: vs, o, w, cur, h => by
    obtain ⟨c2, h1, h2, h3⟩ := setCells_block vs (o + 1) (w.setCell ⟨g, o, none⟩ v) _ (heap_setCell_same w g o cur T v h)
    refine ⟨c2, h1, by simpa using h2, fun k hk => ?_⟩
    rw [h3 k (by omega)]
    simp [List.take_set]
    rw [List.set_eq_of_length_le]
    simp
    omega
theorem grown_setCells {a : World} {g : Nat} : ∀ (vs : List Value) (o : Nat) (w : World), a.grownBy w (some g) → a.grownBy (w.setCells g o vs) (some g)
  | [], o, w, h => h
  | v :: vs, o, w, h => grown_setCells vs (o + 1) _ (grown_set h o v)
theorem own_clearH {w : World} {base g n cap : Nat} {l : List H5} (hl : l.length = n) (h : w.ownsRow base 25 3 (.slice (some ⟨g, 0, none⟩) n cap) n (cellsH l)) (i : Nat) (hi : i ≤ n) (vs : List Value) :
    (w.setCells g (i * 3) vs).ownsRow base 25 3 (.slice (some ⟨g, 0, none⟩) i cap) i (cellsH (l.take i)) := by
  have k := own_takeH hl h i hi
  rcases k.2 with ⟨e, _⟩ | ⟨g', cap', cur, e, hb, hg, hnc, hm, hcs, htk⟩
  · cases e
  · cases e
    obtain ⟨c2, h1, h2, h3⟩ := setCells_block vs (i * 3) w cur hg
    exact ⟨k.1, .inr ⟨g, cap, c2, rfl, hb, h1, hnc, hm, by omega, (h3 _ (Nat.le_refl _)).trans htk⟩⟩
theorem frozenH {w : World} {base cap n : Nat} {e : TypeId} {xs : List Value} {oa : Option Addr} (h : w.ownsRow base e 3 (.slice oa n cap) n xs) (hn : 0 < n) : ∃ g, oa = some ⟨g, 0, none⟩ ∧ base ≤ g ∧ g < w.heap.size ∧ ∀ o, w.frozen? ⟨g, o, none⟩ = false := by
  rcases h.2 with ⟨h1, h2⟩ | ⟨g, cap, cur, h1, hb, hg, hnc, hm, hcs, htk⟩
  · omega
  · injection h1 with h3
    subst h3
    exact ⟨g, rfl, hb, (Array.getElem?_eq_some_iff.1 hg).1, fun o => by simp [World.frozen?, hg]⟩
theorem own_someH {w : World} {base g n cap : Nat} {e : TypeId} {xs : List Value} (h : w.ownsRow base e 3 (.slice (some ⟨g, 0, none⟩) n cap) n xs) (o : Nat) (ho : o < n * 3) : (w.cell? ⟨g, o, none⟩).isSome = true := by
  rcases h.2 with ⟨e, _⟩ | ⟨g', cap', cur, e, hb, hg, hnc, hm, hcs, htk⟩
  · cases e
  · cases e
    rw [cell_of_row w g o cur _ _ hg, Array.getElem?_eq_getElem (by omega)]
    rfl
/-- 'clear' of the rest -/
theorem run_clearH (w : World) (g o n c : Nat) (hn : 0 < n) (hc : ∀ j, j < n * 3 → (w.cell? ⟨g, o + j, none⟩).isSome = true) (hf : ∀ o, w.frozen? ⟨g, o, none⟩ = false) :
    ∃ vs : List Value, ∀ ty : TypeId, (Builtin.clear_ #[22] ty #[.slice (some ⟨g, o, none⟩) n c]).run Try.prog w = .ok (.tuple #[]) (w.setCells g o vs) := by
  have hz : ∀ w, (zeroValue 25).run Try.prog w = .ok (.agg #[.int .i64 0, .int .i64 0, .slice none 0 0]) w := Try.zeroValue25
  refine ⟨(Builtin.zeroCells (Value.agg #[.int .i64 0, .int .i64 0, .slice none 0 0]).cells n).toList, fun ty => ?_⟩
  have hlen : (Builtin.zeroCells (Value.agg #[.int .i64 0, .int .i64 0, .slice none 0 0]).cells n).toList.length = n * 3 := by simp [Builtin.zeroCells, Value.cells]
  have h1 : ∀ v ∈ (Builtin.zeroCells (Value.agg #[.int .i64 0, .int .i64 0, .slice none 0 0]).cells n).toList, v.oneCell' = true := by
    intro v hv
    simp only [Builtin.zeroCells, Value.cells, Array.toList_map, List.mem_map] at hv
    obtain ⟨i, _, rfl⟩ := hv
    have : i % (#[Value.int .i64 0, .int .i64 0, .slice none 0 0] : Array Value).size < 3 := Nat.mod_lt _ (by decide)
    generalize i % (#[Value.int .i64 0, .int .i64 0, .slice none 0 0] : Array Value).size = r at *
    rcases (show r = 0 ∨ r = 1 ∨ r = 2 by omega) with rfl | rfl | rfl <;> rfl
  have hst := run_storeCells_cells (P := Try.prog) g o _ 0 w (by rw [hlen]; simpa using hc) (by simpa using fun j _ => hf _) h1
  simp only [Nat.add_zero] at hst
  obtain ⟨m, rfl⟩ : ∃ m, n = m + 1 := ⟨n - 1, by omega⟩
  simp [Builtin.clear_, run_underlying Try.underlying22, hz, hst]
end Go.Proofs.Ytkckdombcnifnaa
