/-
  The law's own: a config cut short.
-/
import Derived.Test.YtbihaoibmkdfjaaGreatDoorRfcF
import Derived.Lib.MinMax
import Derived.StillTailTactics
import Derived.BigRegion
import Derived.Deep.RegionHeld3
import Derived.Deep.DeepCutAuto
import Derived.Deep.CutBlock
import Derived.RegionTactic
import Derived.Deep.RegionLaw
namespace Go.Proofs.YtbihaoibmkdfjaaGreatDoor
open Go.RowKit Go.Shelf
set_option linter.unusedVariables false

def cutS (s : ByteArray) : ByteArray := s.extract 0 (min s.size 12)
def cutM (m : M3) : M3 := (m.1, cutS m.2.1, cutS m.2.2)
def cutR (r : R9) : R9 := ⟨cutS r.nm, r.ba, r.tp, r.ji, r.tr, r.fa, r.op, r.bu, r.ev⟩
def few6 (l : List M3) : List M3 := (l.take (min l.length 6)).map cutM
def fewT (t : T2) : T2 := (t.1.take (min t.1.length 6), few6 t.2)
def fewC (c : CfgL) : CfgL := ((c.1.take (min c.1.length 6)).map cutR, (c.2.1.take (min c.2.1.length 6)).map fewT, c.2.2)
theorem minN_of (n k : Nat) : ∃ m : Nat, m = min n k ∧ min (n : Int) (k : Int) = (m : Int) ∧ m ≤ n ∧ m ≤ k := ⟨min n k, rfl, by omega, Nat.min_le_left _ _, Nat.min_le_right _ _⟩
theorem take_next {α : Type} (z : α) (l : List α) (k : Nat) (hk : k < l.length) : l.take (k + 1) = l.take k ++ [l.getD k z] := by
  rw [List.take_succ_eq_append_getElem hk, List.getD_eq_getElem?_getD, List.getElem?_eq_getElem hk]; rfl
theorem few_next {α β : Type} (f : α → β) (z : α) (l : List α) (k : Nat) (hk : k < l.length) : (l.take (k + 1)).map f = (l.take k).map f ++ [f (l.getD k z)] := by rw [take_next z l k hk, List.map_append]; rfl
theorem Ns.take {w : World} {oa : Option Addr} {n cap i : Nat} {l : List Int} (h : Ns w oa n cap l) (hi : i ≤ n) : Ns w oa i cap (l.take i) := by
  refine ⟨by rw [List.length_take, h.len]; omega, by have := h.room; omega, fun j hj => ?_⟩
  obtain ⟨g, o, e, h1⟩ := h.cell j (by omega)
  refine ⟨g, o, e, ?_⟩
  rw [h1, List.getD_eq_getElem?_getD, List.getD_eq_getElem?_getD, List.getElem?_take_of_lt hj]
theorem own_drewM {w : World} {base : Nat} {e : TypeId} {s : Nat} {v : Value} {n : Nat} {xs : List Value} (h : w.ownsRow base e s v n xs) : w.drew.ownsRow base e s v n xs := h
/-- routes of one's own, whose chains lie in an older world V -/
structure OwnC (V w : World) (base : Nat) (v : Value) (l : List T2) (qs : List (Value × Value)) : Prop where
  own : w.ownsRow base 56 2 v l.length (cellsQ qs)
  len : qs.length = l.length
  part : ∀ i, i < l.length → (∃ pa n1 c1, (qs.getD i zQ).1 = .slice pa n1 c1 ∧ Ns V pa n1 c1 (l.getD i zT).1) ∧ w.ownsRow base 59 3 (qs.getD i zQ).2 (l.getD i zT).2.length (cellsM (l.getD i zT).2)
theorem OwnC.nil (V w : World) (base : Nat) : OwnC V w base (.slice none 0 0) [] [] := ⟨World.ownsRow_nil _ _ _ _, rfl, fun i hi => absurd hi (by simp)⟩
theorem OwnC.keep {V w w' : World} {base : Nat} {v : Value} {l : List T2} {qs : List (Value × Value)} (h : OwnC V w base v l qs) (hB : Below w.heap.size w w') : OwnC V w' base v l qs :=
  ⟨own_keep h.own hB, h.len, fun i hi => ⟨(h.part i hi).1, own_keep (h.part i hi).2 hB⟩⟩
theorem OwnC.snoc {V w w' : World} {base : Nat} {v v' : Value} {l : List T2} {qs : List (Value × Value)} (h : OwnC V w base v l qs) {t : T2} {pa : Option Addr} {n1 c1 : Nat} {u : Value} (h1 : Ns V pa n1 c1 t.1) (h2 : w.ownsRow base 59 3 u t.2.length (cellsM t.2))
    (hown : w'.ownsRow base 56 2 v' (l.length + 1) (cellsQ qs ++ [.slice pa n1 c1, u])) (hg : w.grownBy w' v.ownBlock) : OwnC V w' base v' (l ++ [t]) (qs ++ [(.slice pa n1 c1, u)]) := by
  refine ⟨by rw [cellsQ_snoc]; simpa using hown, by simp [h.len], fun i hi => ?_⟩
  have hl := h.len
  rw [List.length_append, List.length_singleton] at hi
  by_cases hlt : i < l.length
  · have e1 : (l ++ [t]).getD i zT = l.getD i zT := by rw [List.getD_eq_getElem?_getD, List.getD_eq_getElem?_getD, List.getElem?_append_left hlt]
    have e2 : (qs ++ [((.slice pa n1 c1, u) : Value × Value)]).getD i zQ = qs.getD i zQ := by rw [List.getD_eq_getElem?_getD, List.getD_eq_getElem?_getD, List.getElem?_append_left (by omega)]
    rw [e1, e2]
    exact ⟨(h.part i hlt).1, own_other (h.part i hlt).2 h.own (by decide) hg⟩
  · obtain rfl : i = l.length := by omega
    have e1 : (l ++ [t]).getD l.length zT = t := by simp [List.getD_eq_getElem?_getD]
    have e2 : (qs ++ [((.slice pa n1 c1, u) : Value × Value)]).getD l.length zQ = (.slice pa n1 c1, u) := by rw [← hl]; simp [List.getD_eq_getElem?_getD]
    rw [e1, e2]
    exact ⟨⟨_, _, _, rfl, h1⟩, own_other h2 h.own (by decide) hg⟩
theorem OwnC.lies {V w : World} {base : Nat} {v : Value} {l : List T2} {qs : List (Value × Value)} (h : OwnC V w base v l qs) {C : Nat} (hB : Below C V w) (hC : V.heap.size ≤ C) : ∃ oa cap, v = .slice oa l.length cap ∧ Qs w oa l.length cap l ∧ cap ≤ maxLen ∧ ∀ g o, oa = some ⟨g, o, none⟩ → base ≤ g := by
  have hl := h.len
  rcases h.own.2 with ⟨e, h0⟩ | ⟨g, cap, cur, e, hb, hg, hnc, hm, hcs, htk⟩
  · exact ⟨none, 0, by rw [e, h0], ⟨rfl, by omega, fun i hi => absurd hi (by omega)⟩, by unfold maxLen; omega, fun g o e => by simp at e⟩
  · refine ⟨_, cap, e, ⟨rfl, hnc, fun i hi => ?_⟩, hm, fun g' o' e' => by simp at e'; omega⟩
    obtain ⟨⟨pa, n1, c1, e1, l1⟩, p2⟩ := h.part i hi
    obtain ⟨pb, c2, e2, l2, _⟩ := Ms.of_own rfl p2
    obtain ⟨k1, k2⟩ := cellsQ_at qs i (by omega)
    rw [← htk, List.getElem?_take, if_pos (by omega), e1] at k1
    rw [← htk, List.getElem?_take, if_pos (by omega), e2] at k2
    refine ⟨g, 0, pa, _, c1, pb, _, c2, rfl, ?_, ?_, l1.below hB hC, l2⟩
    · rw [Nat.zero_add, cell_of_row w g (i * 2) cur _ _ hg]
      simpa using k1
    · rw [Nat.zero_add, cell_of_row w g (i * 2 + 1) cur _ _ hg]
      simpa using k2
end Go.Proofs.YtbihaoibmkdfjaaGreatDoor
