/-
  The law's own: what is cut short is short.
-/
import Derived.Test.YthncfcjkpcjkiaaGreatDoorLawB
import Derived.Test.YthncfcjkpcjkiaaGreatDoorWirJ
import Derived.Test.YthncfcjkpcjkiaaGreatDoorRefMats
import Derived.Test.YthncfcjkpcjkiaaGreatDoorLabT
namespace Go.Proofs.YthncfcjkpcjkiaaGreatDoor
open Go.RowKit Go.Shelf
set_option linter.unusedVariables false

theorem cutS_short (s : ByteArray) : (cutS s).size ≤ 12 := by unfold cutS; rw [ByteArray.size_extract]; omega
theorem few5_len (l : List L2) : (few5 l).length ≤ 5 := by unfold few5; rw [List.length_map, List.length_take]; omega
theorem few6_len (l : List M3) : (few6 l).length ≤ 6 := by unfold few6; rw [List.length_map, List.length_take]; omega
theorem few5_at (l : List L2) : ∀ k, k < (few5 l).length → ((few5 l).getD k zL).1.size ≤ 12 ∧ ((few5 l).getD k zL).2.size ≤ 12 := by
  intro k hk
  obtain ⟨x, _, e⟩ := List.mem_map.1 (show (few5 l).getD k zL ∈ (l.take (min l.length 5)).map cutL from getD_mem_L hk)
  rw [← e]
  exact ⟨cutS_short _, cutS_short _⟩
theorem few6_at (l : List M3) : ∀ k, k < (few6 l).length → ((few6 l).getD k zM).2.1.size ≤ 12 ∧ ((few6 l).getD k zM).2.2.size ≤ 12 := by
  intro k hk
  obtain ⟨x, _, e⟩ := List.mem_map.1 (show (few6 l).getD k zM ∈ (l.take (min l.length 6)).map cutM from getD_mem_M hk)
  rw [← e]
  exact ⟨cutS_short _, cutS_short _⟩
/-- rows that lie in other blocks are left alone by stores -/
theorem Ls.other {w w' : World} {oa : Option Addr} {n cap : Nat} {l : List L2} (h : Ls w oa n cap l) {S : Nat → Prop} (hS : ∀ g o, oa = some ⟨g, o, none⟩ → ¬ S g) (hw : ∀ g, ¬ S g → w'.heap[g]? = w.heap[g]?) : Ls w' oa n cap l := by
  refine ⟨h.len, h.room, fun i hi => ?_⟩
  obtain ⟨g, o, e, h1, h2⟩ := h.cell i hi
  have hg := hw g (hS g o e)
  refine ⟨g, o, e, ?_, ?_⟩
  · unfold World.cell? at h1 ⊢
    rw [hg]
    exact h1
  · unfold World.cell? at h2 ⊢
    rw [hg]
    exact h2
theorem Ms.other {w w' : World} {oa : Option Addr} {n cap : Nat} {l : List M3} (h : Ms w oa n cap l) {S : Nat → Prop} (hS : ∀ g o, oa = some ⟨g, o, none⟩ → ¬ S g) (hw : ∀ g, ¬ S g → w'.heap[g]? = w.heap[g]?) : Ms w' oa n cap l := by
  refine ⟨h.len, h.room, fun i hi => ?_⟩
  obtain ⟨g, o, e, h1, h2, h3⟩ := h.cell i hi
  have hg := hw g (hS g o e)
  refine ⟨g, o, e, ?_, ?_, ?_⟩
  · unfold World.cell? at h1 ⊢
    rw [hg]
    exact h1
  · unfold World.cell? at h2 ⊢
    rw [hg]
    exact h2
  · unfold World.cell? at h3 ⊢
    rw [hg]
    exact h3
theorem five_other (w : World) (A : Nat) (y0 y1 y2 y3 y4 : Value) (g : Nat) (h : g ≠ A) : (((((w.setCell ⟨A, 0, none⟩ y0).setCell ⟨A, 1, none⟩ y1).setCell ⟨A, 2, none⟩ y2).setCell ⟨A, 3, none⟩ y3).setCell ⟨A, 4, none⟩ y4).heap[g]? = w.heap[g]? :=
  (Below.heap_setCell _ ⟨A, 4, none⟩ y4 g h).trans ((Below.heap_setCell _ ⟨A, 3, none⟩ y3 g h).trans ((Below.heap_setCell _ ⟨A, 2, none⟩ y2 g h).trans ((Below.heap_setCell _ ⟨A, 1, none⟩ y1 g h).trans (Below.heap_setCell w ⟨A, 0, none⟩ y0 g h))))
theorem three_other (w : World) (A : Nat) (y0 y1 y2 : Value) (g : Nat) (h : g ≠ A) : (((w.setCell ⟨A, 0, none⟩ y0).setCell ⟨A, 1, none⟩ y1).setCell ⟨A, 2, none⟩ y2).heap[g]? = w.heap[g]? :=
  (Below.heap_setCell _ ⟨A, 2, none⟩ y2 g h).trans ((Below.heap_setCell _ ⟨A, 1, none⟩ y1 g h).trans (Below.heap_setCell w ⟨A, 0, none⟩ y0 g h))
end Go.Proofs.YthncfcjkpcjkiaaGreatDoor
