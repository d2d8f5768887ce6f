/-
  The document's own answers: names, values, which labels and matchers may be.
  The document's own answer: which matcher may be.
  The document's own answer: which matchers may be.
-/
import Derived.Test.YtbihaoibmkdfjaaDoorLabN
namespace Go.Proofs.YtbihaoibmkdfjaaDoor
open Go.RowKit Go.Shelf
set_option linter.unusedVariables false

theorem allB_done {p : Int → Bool} {s : ByteArray} (n : Nat) (hn : s.size ≤ n) (h : ∀ k (hk : k < s.size), k < n → p ((s[k]'hk).toNat : Int) = true) : allB p s = true := allB_mk fun k hk => h k hk (by omega)
end Go.Proofs.YtbihaoibmkdfjaaDoor
namespace Go.Proofs.YtbihaoibmkdfjaaDoor
open Go.RowKit Go.Shelf
set_option linter.unusedVariables false

end Go.Proofs.YtbihaoibmkdfjaaDoor
namespace Go.Proofs.YtbihaoibmkdfjaaDoor
open Go.RowKit Go.Shelf
set_option linter.unusedVariables false

def ShortM (l : List M3) : Prop := ∀ k, k < l.length → (l.getD k zM).2.1.size ≤ 4611686018427387904 ∧ (l.getD k zM).2.2.size ≤ 4611686018427387904
theorem matsB_any {l : List M3} (h : l.any (fun m => !matB m) = true) : matsB l = false := by unfold matsB; rw [h]; simp
theorem matsB_len {l : List M3} (n : Nat) (hl : l.length = n) (h : l.any (fun m => !matB m) = false) : matsB l = decide (n ≤ 4) := by unfold matsB; rw [h, hl]; simp
end Go.Proofs.YtbihaoibmkdfjaaDoor
