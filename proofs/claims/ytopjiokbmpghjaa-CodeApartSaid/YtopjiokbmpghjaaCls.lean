/-
  Classes of worlds that calls which only make memory keep; regions that draw their order, walked in such a class.
-/
import Derived.Test.YtopjiokbmpghjaaQTail
namespace Go.Proofs.Ytopjiokbmpghjaa
open Go.RowKit
set_option linter.unusedVariables false

/-- what a call that only makes memory leaves as it was -/
def Stable (I : World → Prop) : Prop := ∀ w w' : World, I w → Below w.heap.size w w' → I w'
theorem Stable.vals (A : Nat) (T : TypeId) (xs : Array Value) : Stable (fun w => Vals w A T xs) := fun _ _ h hB => h.keep hB (Nat.le_refl _)
theorem Stable.below (w0 : World) (B : Nat) : Stable (fun w => B ≤ w.heap.size ∧ Below B w0 w) := fun _ _ h hB => ⟨Nat.le_trans h.1 hB.size, h.2.trans (hB.mono h.1)⟩
theorem Stable.and {I J : World → Prop} (h : Stable I) (k : Stable J) : Stable (fun w => I w ∧ J w) := fun _ _ q hB => ⟨h _ _ q.1 hB, k _ _ q.2 hB⟩
theorem Stable.drew {I : World → Prop} (h : Stable I) {w : World} (q : I w) : I w.drew := h _ _ q (Below.refl _ _).drew
theorem Stable.alloc {I : World → Prop} (h : Stable I) {w : World} (q : I w) (o : Obj) : I (w.alloc o) := h _ _ q (below_alloc w o)
/-- a world of a class -/
structure Cls (I : World → Prop) where
  w : World
  is : I w
theorem wp_region_class {P : Program} (I : World → Prop) {id : Nat} {Q : Exit → Act → World → Prop} {a : Act} {w : World} {l : List Oper} (hm : P.follows .mixedOrders = true) (hB : Region.lexB .any l.toArray = true) (hI : I w.drew)
    (h : wpQuiet P l.toArray (fun w' => ∃ x : Cls I, w' = x.w) (fun a' => ∀ w', (∃ x : Cls I, w' = x.w) → Q .normal a' w') l a) : (Code.region id l.toArray true).wp P Q a w :=
  wp_region_quiet (C := fun w' => ∃ x : Cls I, w' = x.w) hm hB ⟨⟨w.drew, hI⟩, rfl⟩ (by simpa using h)
theorem wp_region_class_tail {P : Program} (I : World → Prop) {id : Nat} {Q : Exit → Act → World → Prop} {a : Act} {w : World} {l : List Oper} (n : Nat) (hm : P.follows .mixedOrders = true) (hB : Region.lexTailB .any l.toArray n = true) (hI : I w.drew)
    (h : wpQuiet P l.toArray (fun w' => ∃ x : Cls I, w' = x.w) (fun a' => ∀ w', (∃ x : Cls I, w' = x.w) → wpList P l.toArray Q (l.drop n) a' w') (l.take n) a) : (Code.region id l.toArray true).wp P Q a w :=
  wp_region_quiet_tail (C := fun w' => ∃ x : Cls I, w' = x.w) n hm hB ⟨⟨w.drew, hI⟩, rfl⟩ h
theorem class_of {P : Program} {f : FuncId} {args : Array Value} {I : World → Prop} {x : Cls I} {v : Value} (hst : Stable I) (h : Calls P f args x.w fun e w' => e = .returned v ∧ Below x.w.heap.size x.w w') :
    Calls P f args x.w fun e w'' => e = .returned v ∧ ∃ y : Cls I, w'' = y.w := h.mono fun _ w' ⟨he, hB⟩ => ⟨he, ⟨w', hst _ _ x.is hB⟩, rfl⟩
theorem class_same {P : Program} {f : FuncId} {args : Array Value} {I : World → Prop} {x : Cls I} {v : Value} (h : Calls P f args x.w fun e w' => e = .returned v ∧ w' = x.w) :
    Calls P f args x.w fun e w'' => e = .returned v ∧ ∃ y : Cls I, w'' = y.w := h.mono fun _ w' ⟨he, hB⟩ => ⟨he, x, hB⟩
end Go.Proofs.Ytopjiokbmpghjaa
