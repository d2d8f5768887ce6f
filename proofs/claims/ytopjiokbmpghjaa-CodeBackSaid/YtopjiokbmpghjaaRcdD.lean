/-
  The document's own: a byte of a text, a time of six, a word and where it ends.
-/
import Derived.Test.YtopjiokbmpghjaaRecM
import Derived.Deep.QuietTactic
import Derived.BigQuiet
import Derived.Lib.MinMax
namespace Go.Proofs.Ytopjiokbmpghjaa
open Go.RowKit Go.Shelf
set_option linter.unusedVariables false
set_option linter.unusedSimpArgs false

theorem atN_le (L : List UInt8) (i : Nat) : atN L i ≤ 255 := by
  unfold atN
  have := (L.getD i 0).toNat_lt
  omega
theorem atN_out (L : List UInt8) (i : Nat) (h : L.length ≤ i) : atN L i = 0 := by
  unfold atN
  rw [List.getD_eq_getElem?_getD, List.getElem?_eq_none h]
  rfl
set_option maxRecDepth 100000 in
set_option maxHeartbeats 800000 in
theorem at_any (L : List UInt8) (hL : L.length ≤ 4611686018427387904) (i : Nat) (w : World) :
    Calls Try.prog 37 #[.string (tx L), .int .i64 (i : Int)] w fun e w' => e = .returned (.int .i64 (atN L i : Int)) ∧ w' = w := by
  have hz := tx_size L
  by_cases h : i < L.length
  · have HA : Hid (wrap64 (((tx L)[i]'(by rw [hz]; exact h)).toNat : Int) = (atN L i : Int)) := by
      show _ = _
      rw [tx_at L i (by rw [hz]; exact h)]
      have := atN_le L i
      show wrap64 ((atN L i : Nat) : Int) = _
      unfold wrap64
      omega
    generalize atN L i = r at *
    have h2 : i < (tx L).size := by rw [hz]; exact h
    generalize tx L = s at *
    go_enter Try.func37, Try.ntmps37
    go_wp2_with fail
    go_ret
    exact ⟨retI HA.out, rfl⟩
  · rw [atN_out L i (by omega)]
    have h2 : ¬ i < (tx L).size := by rw [hz]; exact h
    generalize tx L = s at *
    clear h
    go_enter Try.func37, Try.ntmps37
    go_wp2_with fail
    go_ret
    exact ⟨rfl, rfl⟩
/-- the first so many of six bytes -/
def timeK (L : List UInt8) (i : Nat) : Nat → Nat
  | 0 => 0
  | k + 1 => 256 * timeK L i k + atN L (i + k)
theorem timeK_six (L : List UInt8) (i : Nat) : timeK L i 6 = timeN L i := rfl
theorem timeK_lt (L : List UInt8) (i : Nat) : ∀ k, timeK L i k < 256 ^ k
  | 0 => by simp [timeK]
  | k + 1 => by
    have h1 := timeK_lt L i k
    have h2 := atN_le L (i + k)
    rw [timeK, Nat.pow_succ]
    omega
set_option maxRecDepth 100000 in
set_option maxHeartbeats 1600000 in
theorem time_any (L : List UInt8) (hL : L.length ≤ 4611686018427387904) (i : Nat) (hi : i ≤ 1000) (w : World) :
    Calls Try.prog 38 #[.string (tx L), .int .i64 (i : Int)] w fun e w' => e = .returned (.int .i64 (timeN L i : Int)) ∧ w' = w := by
  rw [← timeK_six]
  have HT := fun k w => at_any L hL (i + k) w
  generalize tx L = s at *
  go_enter Try.func38, Try.ntmps38
  go_wp2_with fail
  go_loopw [5, 6] (fun s5 s6 wr => ∃ k : Nat, k ≤ 6 ∧ s6 = .int .i64 k ∧ s5 = .int .i64 (timeK L i k : Int) ∧ wr = w) (fun _ s6 _ => 6 - (intOf s6).toNat)
  case atStart => exact ⟨0, by omega, rfl, rfl, rfl⟩
  case round =>
    obtain ⟨k, hk, rfl, rfl, rfl⟩ := hrel
    by_cases hlt : k < 6
    · have h1 : timeK L i k < 1099511627776 := by
        have := timeK_lt L i k
        have h6 : 256 ^ k ≤ 256 ^ 5 := Nat.pow_le_pow_right (by omega) (by omega)
        omega
      have h2 := atN_le L (i + k)
      have HK : Hid (timeK L i (k + 1) = 256 * timeK L i k + atN L (i + k)) := rfl
      have HT2 := fun w => HT k w
      rw [show ((i + k : Nat) : Int) = (i : Int) + (k : Int) by omega] at HT2
      generalize timeK L i k = a at *
      generalize atN L (i + k) = b at *
      clear HT
      go_wp2_with fail
      refine (HT2 _).mono ?_
      rintro e w1 ⟨rfl, rfl⟩
      go_wp2_with fail
      go_roundw
      case rel => exact ⟨k + 1, by omega, by go_num, by rw [HK.out]; go_num, by first | rfl | exact trivial⟩
      case measure => simp [intOf]; omega
    · obtain rfl : k = 6 := by omega
      clear HT
      go_wp2_with fail
      go_ret
      exact ⟨rfl, by first | rfl | exact trivial⟩
set_option maxRecDepth 100000 in
set_option maxHeartbeats 1600000 in
theorem word_any (L : List UInt8) (hL : L.length ≤ 1000000) (i : Nat) (hi : i ≤ 2000000) (w : World) :
    Calls Try.prog 57 #[.string (tx L), .int .i64 (i : Int)] w fun e w' => e = .returned (.tuple #[.string (tx (wordN L i).1), .int .i64 ((wordN L i).2 : Int)]) ∧ w' = w := by
  have HT := fun w => at_any L (by omega) i w
  have hz := tx_size L
  have ha := atN_le L i
  have HE : Hid (endN L i = min (i + 1 + atN L i) L.length) := rfl
  have HW : Hid (wordN L i = if endN L i ≤ i + 1 then ([], i + 1) else ((L.take (endN L i)).drop (i + 1), endN L i)) := rfl
  obtain ⟨E, hE, eE, hE2⟩ : ∃ E : Nat, endN L i = E ∧ min ((i : Int) + 1 + (atN L i : Int)) ((tx L).size : Int) = (E : Int) ∧ E ≤ L.length := ⟨endN L i, rfl, by rw [hz, HE.out]; omega, by rw [HE.out]; omega⟩
  rw [hE] at HW
  clear HE
  generalize atN L i = a at *
  by_cases h : E ≤ i + 1
  · have HX : Hid (wordN L i = ([], i + 1)) := by show _ = _; rw [HW.out, if_pos h]
    rw [HX.out]
    clear HX HW hE
    have hE3 : E ≤ (tx L).size := by rw [hz]; exact hE2
    have hz2 : (tx L).size ≤ 1000000 := by rw [hz]; exact hL
    generalize tx L = s at *
    clear hz hE2 hL
    go_enter Try.func57, Try.ntmps57
    go_wp2_with fail
    refine (HT _).mono ?_
    rintro e w1 ⟨rfl, rfl⟩
    go_wp2_with fail
    go_ret2
    exact ⟨by first | rfl | exact trivial, by first | rfl | exact trivial⟩
  · have HX : Hid (wordN L i = ((L.take E).drop (i + 1), E)) := by show _ = _; rw [HW.out, if_neg h]
    rw [HX.out]
    have HC := Lib.hid (tx_cut L (i + 1) E)
    clear HX HW hE
    have hE3 : E ≤ (tx L).size := by rw [hz]; exact hE2
    have hz2 : (tx L).size ≤ 1000000 := by rw [hz]; exact hL
    dsimp only
    generalize tx ((L.take E).drop (i + 1)) = y at *
    generalize tx L = s at *
    clear hz hE2 hL
    go_enter Try.func57, Try.ntmps57
    go_wp2_with fail
    refine (HT _).mono ?_
    rintro e w1 ⟨rfl, rfl⟩
    go_wp2_with fail
    go_ret2
    exact ⟨by rw [← HC.out]; rfl, by first | rfl | exact trivial⟩
end Go.Proofs.Ytopjiokbmpghjaa
