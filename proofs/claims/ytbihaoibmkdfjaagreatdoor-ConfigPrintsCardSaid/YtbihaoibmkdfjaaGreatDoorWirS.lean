/-
  The document's own: a text's bytes, signs, numbers as digits.
-/
import Derived.Test.YtbihaoibmkdfjaaGreatDoorPlnX
import Derived.Laws.BitsAllLaws
import Derived.Laws.BytesArg
namespace Go.Proofs.YtbihaoibmkdfjaaGreatDoor
open Go.RowKit Go.Shelf
set_option linter.unusedVariables false

/-- the bytes of a text -/
abbrev bs (s : ByteArray) : List UInt8 := s.data.toList
theorem bs_at (s : ByteArray) (k : Nat) (h : k < s.size) : (bs s).getD k 0 = s[k]'h := by
  rw [List.getD_eq_getElem?_getD, data_at s k h]; rfl
theorem bs_next (s : ByteArray) (k : Nat) (h : k < s.size) : (bs s).take (k + 1) = (bs s).take k ++ [s[k]'h] := by
  rw [List.take_succ_eq_append_getElem (by rw [Array.length_toList]; exact h)]
  rfl
theorem bs_all (s : ByteArray) : (bs s).take s.size = bs s := List.take_of_length_le (by rw [Array.length_toList]; exact Nat.le_refl _)
theorem bs_drop (s : ByteArray) (k : Nat) (h : k < s.size) : (bs s).drop k = s[k]'h :: (bs s).drop (k + 1) := by
  rw [List.drop_eq_getElem_cons (by rw [Array.length_toList]; exact h)]
  rfl
theorem bs_empty (s : ByteArray) (h : s.size = 0) : bs s = [] := List.length_eq_zero_iff.1 (by rw [Array.length_toList]; exact h)
theorem bs_beq (a b : ByteArray) (c : Bool) (h : c = true ↔ bs a = bs b) : (a.toList == b.toList) = c := by
  rw [Bool.eq_iff_iff, h]
  simp
  constructor
  · intro e; rw [toList_inj e]
  · intro e
    have : a = b := by exact ByteArray.ext e
    rw [this]
/-- one byte, as a text -/
theorem byte_text (w : World) (Q : UInt8) :
    (convert 90 9 (.slice (some ⟨w.heap.size, 0, none⟩) 1 1)).run Tryz.prog (w.alloc (.cells #[.int .u8 (Q.toNat : Int)] 5)) = .ok (.string (tx [Q])) (w.alloc (.cells #[.int .u8 (Q.toNat : Int)] 5)) := by
  have h := run_convert_bytes_arg (P := Tryz.prog) (w.alloc (.cells #[.int .u8 (Q.toNat : Int)] 5)) 90 5 Tryz.underlying90 Tryz.underlying5 w.heap.size 0 1 1 [(Q.toNat : Int)] rfl (fun i hi => by
    obtain rfl : i = 0 := by simp at hi; omega
    simp) 9 Tryz.underlying9
  rw [show strOfNums [(Q.toNat : Int)] = tx [Q] by unfold strOfNums tx; simp] at h
  exact h

theorem sign_all : ∀ k, k < 4 → (⟨#[61, 33, 94, 63]⟩ : ByteArray).extract k (k + 1) = tx [signC (k : Int)] := by decide
set_option maxRecDepth 100000 in
set_option maxHeartbeats 800000 in
theorem refSign_any (k : Nat) (hk : k < 4) (w : World) :
    Calls Tryz.prog 57 #[.int .i64 (k : Int)] w fun e w' => e = .returned (.string (tx [signC (k : Int)])) ∧ w' = w := by
  have HA := Lib.hid (sign_all k hk)
  go_enter Tryz.func57, Tryz.ntmps57
  go_wp2_with fail
  go_ret
  exact ⟨retS HA.out, rfl⟩

set_option maxRecDepth 100000 in
set_option maxHeartbeats 800000 in
theorem refDigits_any (n : Nat) : ∀ (w : World), n ≤ 1000000000000000 →
    Calls Tryz.prog 32 #[.int .i64 (n : Int)] w fun e w' => e = .returned (.string (tx (digsB n))) ∧ Below w.heap.size w w' := by
  induction n using Nat.strongRecOn with
  | _ n ih =>
    intro w hn
    by_cases h : n < 10
    · have e1 : IntKind.u8.wrap (48 + (n : Int)) = ((digC n).toNat : Int) := by rw [digC_nat n h, IntKind.wrap_u8']; omega
      have HD := Lib.hid (digsB_small n h)
      have hcv := byte_text w (digC n)
      go_enter Tryz.func32, Tryz.ntmps32
      go_wp2_with fail
      go_ret
      exact ⟨retS (by rw [HD.out]), (Below.refl _ w).alloc (Nat.le_refl _) _⟩
    · have HD := Lib.hid (digsB_great n h)
      have HX := Lib.hid (tx_append (digsB (n / 10)) [digC (n % 10)])
      have H1 := fun w => ih (n / 10) (by omega) w (by omega)
      have H2 := fun w => ih (n % 10) (by omega) w (by omega)
      have e1 : (n : Int).tdiv 10 = ((n / 10 : Nat) : Int) := by rw [Int.tdiv_eq_ediv_of_nonneg (by omega)]; omega
      have e1' : wrap64 ((n / 10 : Nat) : Int) = ((n / 10 : Nat) : Int) := by unfold wrap64; omega
      have e2 : (n : Int).tmod 10 = ((n % 10 : Nat) : Int) := by rw [Int.tmod_eq_emod_of_nonneg (by omega)]; omega
      have e2' : wrap64 ((n % 10 : Nat) : Int) = ((n % 10 : Nat) : Int) := by unfold wrap64; omega
      have z1 : (tx (digsB (n / 10))).size ≤ 15 := by rw [tx_size]; exact digsB_length 14 (n / 10) (by omega)
      have z2 : (tx (digsB (n % 10))).size = 1 := by rw [tx_size, digsB_small _ (Nat.mod_lt _ (by omega))]; rfl
      rw [← digsB_small (n % 10) (Nat.mod_lt _ (by omega))] at HX
      have HE : Hid (tx (digsB n) = tx (digsB (n / 10)) ++ tx (digsB (n % 10))) := by show _ = _; rw [HX.out, HD.out, digsB_small (n % 10) (Nat.mod_lt _ (by omega))]
      clear HX HD ih
      generalize n / 10 = a at *
      generalize n % 10 = b at *
      generalize tx (digsB a) = s at *
      generalize tx (digsB b) = t at *
      go_enter Tryz.func32, Tryz.ntmps32
      go_wp2_with fail
      refine (H1 _).mono ?_
      rintro e w1 ⟨rfl, B1⟩
      go_wp2_with fail
      refine (H2 _).mono ?_
      rintro e w2 ⟨rfl, B2⟩
      go_wp2_with fail
      go_ret
      exact ⟨retS HE.out.symm, B1.trans (B2.mono B1.size)⟩

end Go.Proofs.YtbihaoibmkdfjaaGreatDoor
