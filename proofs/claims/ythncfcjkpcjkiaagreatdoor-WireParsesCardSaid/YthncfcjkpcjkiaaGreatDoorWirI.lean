/-
  The document's own: messages that are the same.
-/
import Derived.Test.YthncfcjkpcjkiaaGreatDoorRefSame
import Derived.Test.YthncfcjkpcjkiaaGreatDoorWirZ
namespace Go.Proofs.YthncfcjkpcjkiaaGreatDoor
open Go.RowKit Go.Shelf
set_option linter.unusedVariables false

set_option maxRecDepth 100000 in
set_option maxHeartbeats 3200000 in
theorem refHushes_any (f t : Int) (ob : Option Addr) (nb cb : Nat) (od : Option Addr) (nd cd : Nat) (ms : List M3) (w : World) (h : Ms w ob nb cb ms) (h' : Ms w od nd cd ms) (hn : nb ≤ 3074457345618258602) :
    Calls Tryz.prog 32 #[.agg #[.int .i64 f, .int .i64 t, .slice ob nb cb], .agg #[.int .i64 f, .int .i64 t, .slice od nd cd]] w fun e w' => e = .returned (.bool true) ∧ Below w.heap.size w w' := by
  have B1 := below_alloc w (.cells #[.int .i64 f, .int .i64 t, .slice ob nb cb] 25)
  have B2 := B1.alloc B1.size (.cells #[.int .i64 f, .int .i64 t, .slice od nd cd] 25)
  have HA := asked_any ob nb cb od nd cd ms _ (h.below B2 (Nat.le_refl _)) (h'.below B2 (Nat.le_refl _)) hn
  clear h h'
  go_enter Tryz.func32, Tryz.ntmps32
  go_wp2_with fail
  refine HA.mono ?_
  rintro e w3 ⟨rfl, B3⟩
  go_wp2_with fail
  go_ret
  exact ⟨rfl, B2.trans (B3.mono B2.size)⟩
set_option maxRecDepth 100000 in
set_option maxHeartbeats 6400000 in
theorem refSame_any (k f t : Int) (oa : Option Addr) (na ca : Nat) (ob : Option Addr) (nb cb : Nat) (oc : Option Addr) (nc cc : Nat) (od : Option Addr) (nd cd : Nat) (ls : List L2) (ms : List M3) (w : World)
    (h1 : Ls w oa na ca ls) (h2 : Ms w ob nb cb ms) (h3 : Ls w oc nc cc ls) (h4 : Ms w od nd cd ms) (hn : na ≤ 4611686018427387904) (hm : nb ≤ 3074457345618258602) :
    Calls Tryz.prog 11 #[.agg (msgC k (.slice oa na ca) f t (.slice ob nb cb)), .agg (msgC k (.slice oc nc cc) f t (.slice od nd cd))] w fun e w' => e = .returned (.bool true) ∧ Below w.heap.size w w' := by
  have B1 := below_alloc w (.cells (msgC k (.slice oa na ca) f t (.slice ob nb cb)) 27)
  have B2 := B1.alloc B1.size (.cells (msgC k (.slice oc nc cc) f t (.slice od nd cd)) 27)
  have HS := same_any oa na ca oc nc cc ls _ (h1.below B2 (Nat.le_refl _)) (h3.below B2 (Nat.le_refl _)) hn
  have HU := fun w3 (B3 : Below w.heap.size w w3) => refHushes_any f t ob nb cb od nd cd ms w3 (h2.below B3 (Nat.le_refl _)) (h4.below B3 (Nat.le_refl _)) hm
  have V1 : Vals (w.alloc (.cells (msgC k (.slice oa na ca) f t (.slice ob nb cb)) 27)) w.heap.size 27 (msgC k (.slice oa na ca) f t (.slice ob nb cb)) := Vals.new w _ _
  have V2 := Vals.new (w.alloc (.cells (msgC k (.slice oa na ca) f t (.slice ob nb cb)) 27)) 27 (msgC k (.slice oc nc cc) f t (.slice od nd cd))
  have V1' := V1.keep (below_alloc _ (.cells (msgC k (.slice oc nc cc) f t (.slice od nd cd)) 27)) (Nat.le_refl _)
  clear h1 h2 h3 h4
  go_enter Tryz.func11, Tryz.ntmps11
  go_wp2_with fail
  refine HS.mono ?_
  rintro e w3 ⟨rfl, B3⟩
  have B4 := B2.trans (B3.mono B2.size)
  have U1 := V1'.keep B3 (Nat.le_refl _)
  have U2 := V2.keep B3 (Nat.le_refl _)
  have HT := HU w3 B4
  clear HS HU V1 V2 V1' B2 B3
  have a2 := U1.cell 2
  have a3 := U1.cell 3
  have a4 := U1.cell 4
  have b2 := U2.cell 2
  have b3 := U2.cell 3
  have b4 := U2.cell 4
  simp only [World.size_alloc] at b2 b3 b4
  clear U1 U2
  go_wp2_with fail
  refine HT.mono ?_
  rintro e w5 ⟨rfl, B5⟩
  go_wp2_with fail
  go_ret
  exact ⟨rfl, B4.trans (B5.mono B4.size)⟩
end Go.Proofs.YthncfcjkpcjkiaaGreatDoor
