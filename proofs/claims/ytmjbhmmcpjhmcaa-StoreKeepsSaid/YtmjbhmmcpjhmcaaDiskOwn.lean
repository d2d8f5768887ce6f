/-
  A disk's first sectors, each one's first bytes: the law's own cut of what it is handed.
-/
import Derived.Test.YtmjbhmmcpjhmcaaDiskNew
namespace Go.Proofs.Ytmjbhmmcpjhmcaa
open Go.RowKit
set_option linter.unusedVariables false

/-- the texts ss lie at a slice that came in -/
structure Arg (w : World) (oa : Option Addr) (n cap : Nat) (ss : List ByteArray) : Prop where
  len : ss.length = n
  room : n ≤ cap
  most : cap ≤ maxLen
  each : ∀ i, i < n → (ss.getD i ByteArray.empty).size ≤ maxLen
  cell : ∀ i, i < n → ∃ b off, oa = some ⟨b, off, none⟩ ∧ w.cell? ⟨b, off + i, none⟩ = some (.string (ss.getD i ByteArray.empty))
/-- the law's own cut -/
def fewL (ss : List ByteArray) : List ByteArray := (ss.take 132).map (cutS 130)
theorem few_length (ss : List ByteArray) : (fewL ss).length = min 132 ss.length := by unfold fewL; rw [List.length_map, List.length_take]
theorem few_take (ss : List ByteArray) (k : Nat) (h : k < (fewL ss).length) : (fewL ss).take (k + 1) = (fewL ss).take k ++ [cutS 130 (ss.getD k ByteArray.empty)] := by
  have h' := few_length ss
  have e : (fewL ss)[k]? = some (cutS 130 (ss.getD k ByteArray.empty)) := by
    unfold fewL
    rw [List.getElem?_map, List.getElem?_take, if_pos (by omega), List.getD_eq_getElem?_getD, List.getElem?_eq_getElem (by omega)]
    rfl
  rw [List.take_succ_eq_append_getElem h]
  rw [List.getElem?_eq_getElem h] at e
  rw [Option.some.inj e]
theorem strCells_append (a b : List ByteArray) : strCells (a ++ b) = strCells a ++ strCells b := by unfold strCells; rw [List.map_append]
/-- what is told: a disk -/
def Told1 (e : Ending) (w' : World) (l : List ByteArray) : Prop :=
  ∃ oa n cap, e = .returned (.agg #[.slice oa n cap]) ∧ Rd w' oa n cap l
theorem Rd.of_own {w : World} {base : Nat} {v : Value} {n : Nat} {ss : List ByteArray} (hl : ss.length = n) (h : w.ownsRow base 9 1 v n (strCells ss)) :
    ∃ oa cap, v = .slice oa n cap ∧ Rd w oa n cap ss ∧ ∀ g, v.ownBlock = some g → base ≤ g := by
  rcases h.2 with ⟨rfl, rfl⟩ | ⟨g, cap, cur, rfl, hb, hg, hnc, _, hcs, htk⟩
  · exact ⟨none, 0, rfl, ⟨hl, Nat.le_refl _, fun i hi => absurd hi (by omega)⟩, fun g hg => by simp [Value.ownBlock] at hg⟩
  · refine ⟨_, cap, rfl, Rd.of_block hl hnc hg (fun i hi => ?_), fun g' hg' => by simp [Value.ownBlock] at hg'; omega⟩
    have := strCells_at ss i (by omega)
    rw [← htk, List.getElem?_take, if_pos (by omega)] at this
    simpa using this
theorem Rd.setLow {w : World} {oa : Option Addr} {n cap : Nat} {ss : List ByteArray} (h : Rd w oa n cap ss) {B : Nat} (hne : ∀ g, oa = some ⟨g, 0, none⟩ → B ≠ g) (u : Value) : Rd (w.setCell ⟨B, 0, none⟩ u) oa n cap ss := by
  refine ⟨h.len, h.room, fun i hi => ?_⟩
  obtain ⟨g, hg, hc⟩ := h.cell i hi
  exact ⟨g, hg, keepS (by exact hne g hg) hc⟩

theorem one_new (w : World) (v : Value) (t : TypeId) : ∀ (j : Nat) (u : Value), [v][j]? = some u → (w.alloc (.cells #[v] t)).cell? ((⟨w.heap.size, 0, none⟩ : Addr).add j) = some u := by
  intro j u hj
  match j, hj with
  | 0, hj =>
    simp at hj
    subst hj
    exact World.cell?_alloc_at _ _ _ _ rfl
theorem one_cell (x : ByteArray) : ∀ u ∈ [Value.string x], u.oneCell' = true := by
  intro u hu
  simp at hu
  subst hu
  rfl
theorem strCells_snoc (l : List ByteArray) (x : ByteArray) : strCells (l ++ [x]) = strCells l ++ [.string x] := strCells_append l [x]
/-- one round of a row that grows -/
theorem step_own {B : Nat} {w wr w1 : World} {v v' : Value} {k : Nat} {xs : List Value} {y : Value} {o : Obj} {ro : Obj}
    (hown : wr.ownsRow (B + 2) 9 1 v k xs) (hr : Hid (wr.heap[B + 1]? = some ro)) (hB : Below B w wr) (hS : Hid (B + 2 ≤ wr.heap.size))
    (hown' : w1.ownsRow (B + 2) 9 1 v' (k + 1) (xs ++ [y])) (hgrow : (wr.alloc o).grownBy w1 v.ownBlock) :
    w1.ownsRow (B + 2) 9 1 v' (k + 1) (xs ++ [y]) ∧ Hid (w1.heap[B + 1]? = some ro) ∧ Below B w w1 ∧ Hid (B + 2 ≤ w1.heap.size) := by
  have hlt := hown.lt
  have hS' := hS.out
  have hsz : (wr.alloc o).heap.size = wr.heap.size + 1 := by simp
  refine ⟨hown', ?_, (hB.alloc (by omega) o).grown hgrow (by omega) (fun g hg => by have := hlt g hg; omega), ?_⟩
  · show _ = _
    rw [hgrow.block (B + 1) (by omega) (fun e => by have := hlt (B + 1) e.symm; omega), Below.heap_alloc _ _ _ (by omega)]
    exact hr.out
  · show _ ≤ _
    have := hgrow.size
    omega
end Go.Proofs.Ytmjbhmmcpjhmcaa
