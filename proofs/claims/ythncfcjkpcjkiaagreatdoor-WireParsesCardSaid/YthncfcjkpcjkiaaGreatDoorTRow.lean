/-
  Texts in memory: a row of them that lies at a slice, and one of one's own that grows.
-/
import Derived.Test.YthncfcjkpcjkiaaGreatDoorLabB
import Derived.OwnWalk
import Derived.Maps.AppendAt
namespace Go.Proofs.YthncfcjkpcjkiaaGreatDoor
open Go.RowKit Go.Shelf
set_option linter.unusedVariables false

/-- the texts l lie at a slice of length n -/
structure Ts (w : World) (oa : Option Addr) (n cap : Nat) (l : List ByteArray) : Prop where
  len : l.length = n
  room : n ≤ cap
  cell : ∀ i, i < n → ∃ g o, oa = some ⟨g, o, none⟩ ∧ w.cell? ⟨g, o + i, none⟩ = some (.string (l.getD i ByteArray.empty))
theorem Ts.below {w w' : World} {oa : Option Addr} {n cap : Nat} {l : List ByteArray} (h : Ts w oa n cap l) {C : Nat} (hB : Below C w w') (hC : w.heap.size ≤ C) : Ts w' oa n cap l := by
  refine ⟨h.len, h.room, fun i hi => ?_⟩
  obtain ⟨g, o, hg, hc⟩ := h.cell i hi
  have := World.block_lt_of_cell? w _ hc
  exact ⟨g, o, hg, (hB.cell (p := ⟨g, o + i, none⟩) (Nat.lt_of_lt_of_le this hC)).trans hc⟩
theorem Ts.nil (w : World) (cap : Nat) (oa : Option Addr) : Ts w oa 0 cap [] := ⟨rfl, Nat.zero_le _, fun i hi => absurd hi (by omega)⟩
theorem Ts.dropped {w : World} {g o n cap : Nat} {l : List ByteArray} (h : Ts w (some ⟨g, o, none⟩) n cap l) (k : Nat) (hk : k ≤ n) : Ts w (some ⟨g, o + k, none⟩) (n - k) (cap - k) (l.drop k) := by
  refine ⟨by rw [List.length_drop, h.len], by have := h.room; omega, fun i hi => ?_⟩
  obtain ⟨g', o', e, hc⟩ := h.cell (k + i) (by omega)
  cases e
  refine ⟨g, o + k, rfl, ?_⟩
  rw [Nat.add_assoc, hc, List.getD_eq_getElem?_getD, List.getD_eq_getElem?_getD, List.getElem?_drop]
def cellsT (l : List ByteArray) : List Value := l.map .string
theorem cellsT_snoc (l : List ByteArray) (x : ByteArray) : cellsT (l ++ [x]) = cellsT l ++ [.string x] := by unfold cellsT; rw [List.map_append]; rfl
theorem cellsT_at (l : List ByteArray) (i : Nat) (hi : i < l.length) : (cellsT l)[i]? = some (.string (l.getD i ByteArray.empty)) := by
  unfold cellsT
  simp [List.getD_eq_getElem?_getD, hi]
theorem infoTx : (Tryz.prog.info? 9).map (fun i => (i.zero, i.size, i.bytes)) = some (some (.string ByteArray.empty), 1, 16) := by kernel_rfl
theorem Ts.of_own {w : World} {base : Nat} {v : Value} {n : Nat} {l : List ByteArray} (hl : l.length = n) (h : w.ownsRow base 9 1 v n (cellsT l)) :
    ∃ oa cap, v = .slice oa n cap ∧ Ts w oa n cap l ∧ cap ≤ maxLen ∧ (0 < n → ∃ g, oa = some ⟨g, 0, none⟩ ∧ base ≤ g ∧ g < w.heap.size) := by
  rcases h.2 with ⟨rfl, rfl⟩ | ⟨g, cap, cur, rfl, hb, hg, hnc, hm, hcs, htk⟩
  · exact ⟨none, 0, rfl, ⟨hl, Nat.le_refl _, fun i hi => absurd hi (by omega)⟩, by unfold maxLen; omega, fun h => absurd h (by omega)⟩
  · refine ⟨_, cap, rfl, ⟨hl, hnc, fun i hi => ⟨g, 0, rfl, ?_⟩⟩, hm, fun _ => ⟨g, rfl, hb, (Array.getElem?_eq_some_iff.1 hg).1⟩⟩
    have := cellsT_at l i (by omega)
    rw [← htk, List.getElem?_take, if_pos (by omega)] at this
    simpa [World.cell?, hg] using this
theorem one_newT (w : World) (v : Value) (t : TypeId) : ∀ (j : Nat) (u : Value), [v][j]? = some u → (w.alloc (.cells #[v] t)).cell? ((⟨w.heap.size, 0, none⟩ : Addr).add j) = some u := by
  intro j u hj
  match j, hj with
  | 0, hj =>
    simp at hj
    subst hj
    exact World.cell?_alloc_at _ _ _ _ rfl
theorem one_cellT (x : ByteArray) : ∀ u ∈ [Value.string x], u.oneCell' = true := by
  intro u hu
  simp at hu
  subst hu
  rfl
end Go.Proofs.YthncfcjkpcjkiaaGreatDoor
