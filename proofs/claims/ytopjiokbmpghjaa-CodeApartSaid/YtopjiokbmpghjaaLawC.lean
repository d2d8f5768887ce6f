/-
  The law's own: records cut short have short texts; what is sure of them along the way.
-/
import Derived.Test.YtopjiokbmpghjaaRcdN
import Derived.Test.YtopjiokbmpghjaaCls
import Derived.Deep.QuietTactic
import Derived.BigQuiet
namespace Go.Proofs.Ytopjiokbmpghjaa
open Go.RowKit Go.Shelf
set_option linter.unusedVariables false
set_option linter.unusedSimpArgs false

theorem cut12_size (s : ByteArray) : (cut12 s).size ≤ 12 := by
  unfold cut12
  rw [ByteArray.size_extract]
  omega
theorem fewR_short (r : Rc) : RSh (fewR r) := by
  have hL : ∀ l : List L2, ShortL (few5 l) := fun l => shortL_of (n := 12) (by omega) (fun x hx => by
    unfold few5 at hx
    obtain ⟨y, _, rfl⟩ := List.mem_map.1 hx
    exact ⟨cut12_size _, cut12_size _⟩)
  have hM : ∀ l : List M3, ShortM (few6 l) := fun l => shortM_of (n := 12) (by omega) (fun x hx => by
    unfold few6 at hx
    obtain ⟨y, _, rfl⟩ := List.mem_map.1 hx
    exact ⟨cut12_size _, cut12_size _⟩)
  exact ⟨hL _, hL _, hM _⟩
theorem Stable.rat (o1 : Option Addr) (n1 c1 : Nat) (o2 : Option Addr) (n2 c2 : Nat) (o3 : Option Addr) (n3 c3 : Nat) (r : Rc) : Stable (fun w => RAt w o1 n1 c1 o2 n2 c2 o3 n3 c3 r) := fun _ _ h hB => h.below hB (Nat.le_refl _)
end Go.Proofs.Ytopjiokbmpghjaa
