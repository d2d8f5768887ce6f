/-
  The document's own: which receivers may be.
  The document's own: which receivers may be, and where a name stands.
-/
import Derived.Test.YtbihaoibmkdfjaaDoorCfgN
import Derived.Test.YtbihaoibmkdfjaaDoorPlnX
import Derived.Test.YtbihaoibmkdfjaaDoorRfM
import Derived.Test.YtbihaoibmkdfjaaDoorWirB
import Derived.Deep.RegionHeld3
import Derived.Deep.DeepCutAuto
import Derived.Deep.CutBlock
namespace Go.Proofs.YtbihaoibmkdfjaaDoor
open Go.RowKit Go.Shelf
set_option linter.unusedVariables false

end Go.Proofs.YtbihaoibmkdfjaaDoor
namespace Go.Proofs.YtbihaoibmkdfjaaDoor
open Go.RowKit Go.Shelf
set_option linter.unusedVariables false

theorem if_text (s : ByteArray) : (s.toList == [105, 102]) = decide (s = tx ifT) := by
  have e : [105, 102] = (tx ifT).toList := (tx_list ifT).symm
  rw [e]
  by_cases h : s = tx ifT
  · subst h; simp
  · rw [decide_eq_false h]
    have : s.toList ≠ (tx ifT).toList := fun e => h (toList_inj e)
    simpa using this
/-- where a name stands, or -1 -/
def placeN (l : List R9) (s : ByteArray) : Int := match l.findIdx? fun r => decide (r.nm = s) with
  | some k => (k : Int)
  | none => -1
theorem placeN_hit {l : List R9} {s : ByteArray} (k : Nat) (hk : k < l.length) (hA : ∀ i, i < k → (l.getD i zR).nm ≠ s) (h : (l.getD k zR).nm = s) : placeN l s = (k : Int) := by
  have e : (l.findIdx? fun r => decide (r.nm = s)) = some k := by
    rw [List.findIdx?_eq_some_iff_getElem]
    refine ⟨hk, by simp only [decide_eq_true_eq]; rw [← getD_R l k hk]; exact h, fun j hj => ?_⟩
    have := hA j hj
    rw [getD_R l j (by omega)] at this
    simpa using this
  unfold placeN
  rw [e]
theorem placeN_none {l : List R9} {s : ByteArray} (hA : ∀ i, i < l.length → (l.getD i zR).nm ≠ s) : placeN l s = -1 := by
  have e : (l.findIdx? fun r => decide (r.nm = s)) = none := by
    rw [List.findIdx?_eq_none_iff]
    intro x hx
    obtain ⟨i, hi, rfl⟩ := List.getElem_of_mem hx
    have := hA i hi
    rw [getD_R l i hi] at this
    simpa using this
  unfold placeN
  rw [e]
end Go.Proofs.YtbihaoibmkdfjaaDoor
