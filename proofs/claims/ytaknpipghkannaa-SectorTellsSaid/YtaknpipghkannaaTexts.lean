/-
  Texts: so many bytes 0, a sector's text from any, and what is torn: one text's first bytes, and then another one's.
-/
import Derived.Test.YtaknpipghkannaaReads
import Derived.Laws.BytesArg
import Derived.Laws.IdiomStrings
namespace Go.Proofs.Ytaknpipghkannaa
open Go.RowKit
set_option linter.unusedVariables false

/-- so many bytes 0 -/
def zerosB (n : Nat) : ByteArray := ⟨Array.replicate n 0⟩
theorem zeros_size (n : Nat) : (zerosB n).size = n := by unfold zerosB ByteArray.size; simp
theorem zeros_succ (n : Nat) : zerosB n ++ ⟨#[0]⟩ = zerosB (n + 1) := by
  apply ByteArray.ext
  rw [ByteArray.data_append]
  unfold zerosB
  simp [Array.replicate_succ]
theorem str_eq {a b : ByteArray} (h : a = b) : Value.string a = .string b := by rw [h]
theorem ret_str {a b : ByteArray} (h : a = b) : Ending.returned (.string a) = .returned (.string b) := by rw [h]
set_option maxHeartbeats 800000 in
theorem zeros_any (n : Nat) (w : World) (hn : n ≤ 1000) :
    Calls Try.prog 22 #[.int .i64 n] w fun e w' => e = .returned (.string (zerosB n)) ∧ w = w' := by
  go_enter Try.func22, Try.ntmps22
  go_wp2
  go_loop [3, 4] (fun s i => ∃ k : Nat, k ≤ n ∧ i = .int .i64 k ∧ s = .string (zerosB k)) (fun _ i => n - (intOf i).toNat)
  case atStart => exact ⟨0, Nat.zero_le _, rfl, rfl⟩
  case round =>
    obtain ⟨k, hk, rfl, rfl⟩ := hrel
    have hz := zeros_size k
    by_cases h8 : k < n
    · go_wp2
      go_round
      case rel => exact ⟨k + 1, by omega, by go_num, str_eq (zeros_succ k)⟩
      case measure => simp [intOf]; omega
    · obtain rfl : k = n := by omega
      go_wp2
      go_ret
      exact ⟨rfl, rfl⟩
/-- a text's first m bytes -/
def cutS (m : Nat) (s : ByteArray) : ByteArray := if m < s.size then s.extract 0 m else s
theorem cut_size (m : Nat) (s : ByteArray) : (cutS m s).size ≤ m := by
  unfold cutS
  split
  · rw [ByteArray.size_extract]; omega
  · omega
/-- a sector's text, from any -/
def wholeS (s : ByteArray) : ByteArray := cutS 128 s ++ zerosB (128 - (cutS 128 s).size)
theorem whole_size (s : ByteArray) : (wholeS s).size = 128 := by
  have := cut_size 128 s
  unfold wholeS
  rw [ByteArray.size_append, zeros_size]
  omega
set_option maxHeartbeats 800000 in
theorem whole_any (s : ByteArray) (w : World) (hs : s.size ≤ maxLen) :
    Calls Try.prog 18 #[.string s] w fun e w' => e = .returned (.string (wholeS s)) ∧ w = w' := by
  unfold maxLen at hs
  by_cases h : 128 < s.size
  · have hz : (s.extract 0 128).size = 128 := by rw [ByteArray.size_extract]; omega
    have hz0 := zeros_size 0
    have HC : Hid (cutS 128 s = s.extract 0 128) := by show _ = _; unfold cutS; rw [if_pos h]
    go_enter Try.func18, Try.ntmps18
    go_wp2_with fail
    refine (zeros_any 0 _ (by omega)).mono ?_
    rintro e w' ⟨rfl, rfl⟩
    go_wp2
    go_ret
    exact ⟨ret_str (by unfold wholeS; rw [HC.out, hz]), rfl⟩
  · have HC : Hid (cutS 128 s = s) := by show _ = _; unfold cutS; rw [if_neg h]
    have hz0 := zeros_size (128 - s.size)
    go_enter Try.func18, Try.ntmps18
    go_wp2_with fail
    rw [show (128 : Int) - (s.size : Int) = ((128 - s.size : Nat) : Int) by omega]
    refine (zeros_any _ _ (by omega)).mono ?_
    rintro e w' ⟨rfl, rfl⟩
    go_wp2
    go_ret
    exact ⟨ret_str (by unfold wholeS; rw [HC.out]), rfl⟩
/-- one text's first k bytes, and then another one's -/
def tornS (old text : ByteArray) (k : Nat) : ByteArray := text.extract 0 k ++ old.extract k 128
theorem torn_size (old text : ByteArray) (k : Nat) (ho : old.size = 128) (ht : text.size = 128) (hk : k ≤ 128) : (tornS old text k).size = 128 := by
  unfold tornS
  rw [ByteArray.size_append, ByteArray.size_extract, ByteArray.size_extract]
  omega
end Go.Proofs.Ytaknpipghkannaa
