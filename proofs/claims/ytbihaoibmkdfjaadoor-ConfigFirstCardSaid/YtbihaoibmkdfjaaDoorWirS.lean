/-
  The document's own: a text's bytes, signs, numbers as digits.
-/
import Derived.Test.YtbihaoibmkdfjaaDoorPlnX
import Derived.Laws.BitsAllLaws
import Derived.Laws.BytesArg
namespace Go.Proofs.YtbihaoibmkdfjaaDoor
open Go.RowKit Go.Shelf
set_option linter.unusedVariables false

/-- the bytes of a text -/
abbrev bs (s : ByteArray) : List UInt8 := s.data.toList
theorem bs_at (s : ByteArray) (k : Nat) (h : k < s.size) : (bs s).getD k 0 = s[k]'h := by
  rw [List.getD_eq_getElem?_getD, data_at s k h]; rfl
theorem bs_next (s : ByteArray) (k : Nat) (h : k < s.size) : (bs s).take (k + 1) = (bs s).take k ++ [s[k]'h] := by
  rw [List.take_succ_eq_append_getElem (by rw [Array.length_toList]; exact h)]
  rfl
theorem bs_all (s : ByteArray) : (bs s).take s.size = bs s := List.take_of_length_le (by rw [Array.length_toList]; exact Nat.le_refl _)
theorem bs_drop (s : ByteArray) (k : Nat) (h : k < s.size) : (bs s).drop k = s[k]'h :: (bs s).drop (k + 1) := by
  rw [List.drop_eq_getElem_cons (by rw [Array.length_toList]; exact h)]
  rfl
theorem bs_empty (s : ByteArray) (h : s.size = 0) : bs s = [] := List.length_eq_zero_iff.1 (by rw [Array.length_toList]; exact h)
theorem bs_beq (a b : ByteArray) (c : Bool) (h : c = true ↔ bs a = bs b) : (a.toList == b.toList) = c := by
  rw [Bool.eq_iff_iff, h]
  simp
  constructor
  · intro e; rw [toList_inj e]
  · intro e
    have : a = b := by exact ByteArray.ext e
    rw [this]
/-- one byte, as a text -/
theorem byte_text (w : World) (Q : UInt8) :
    (convert 114 9 (.slice (some ⟨w.heap.size, 0, none⟩) 1 1)).run Tryd.prog (w.alloc (.cells #[.int .u8 (Q.toNat : Int)] 5)) = .ok (.string (tx [Q])) (w.alloc (.cells #[.int .u8 (Q.toNat : Int)] 5)) := by
  have h := run_convert_bytes_arg (P := Tryd.prog) (w.alloc (.cells #[.int .u8 (Q.toNat : Int)] 5)) 114 5 Tryd.underlying114 Tryd.underlying5 w.heap.size 0 1 1 [(Q.toNat : Int)] rfl (fun i hi => by
    obtain rfl : i = 0 := by simp at hi; omega
    simp) 9 Tryd.underlying9
  rw [show strOfNums [(Q.toNat : Int)] = tx [Q] by unfold strOfNums tx; simp] at h
  exact h

theorem sign_all : ∀ k, k < 4 → (⟨#[61, 33, 94, 63]⟩ : ByteArray).extract k (k + 1) = tx [signC (k : Int)] := by decide
end Go.Proofs.YtbihaoibmkdfjaaDoor
