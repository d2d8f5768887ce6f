/-
  Texts: so many bytes 0, a text's first bytes, a sector's text from any, and what is torn: one text's first bytes, and then another one's.
-/
import Derived.Test.YtmjbhmmcpjhmcaaRows
import Derived.WalkKit
import Derived.ProofKit
import Derived.LoopTactic
import Derived.OneCell
import Derived.Lib.Hide
import Derived.Outline
import Derived.Laws.BitsAllLaws
import Derived.Laws.BytesArg
import Derived.Laws.IdiomStrings
import Derived.WalkSpells
import Derived.WalkLawsBesides
namespace Go.Proofs.Ytmjbhmmcpjhmcaa
open Go.RowKit
set_option linter.unusedVariables false

theorem ret_int {k : IntKind} {a b : Int} (h : a = b) : Ending.returned (.int k a) = .returned (.int k b) := by rw [h]
theorem int_eq {k : IntKind} {a b : Int} (h : a = b) : Value.int k a = .int k b := by rw [h]
theorem ret_str {a b : ByteArray} (h : a = b) : Ending.returned (.string a) = .returned (.string b) := by rw [h]
theorem val_bool {a b : Bool} (h : a = b) : Value.bool a = .bool b := by rw [h]
/-- so many bytes 0 -/
def zerosB (n : Nat) : ByteArray := ⟨Array.replicate n 0⟩
theorem zeros_size (n : Nat) : (zerosB n).size = n := by unfold zerosB ByteArray.size; simp
theorem zeros_succ (n : Nat) : zerosB n ++ ⟨#[0]⟩ = zerosB (n + 1) := by
  apply ByteArray.ext
  rw [ByteArray.data_append]
  unfold zerosB
  simp [Array.replicate_succ]
theorem str_eq {a b : ByteArray} (h : a = b) : Value.string a = .string b := by rw [h]
set_option maxHeartbeats 800000 in
theorem zeros_any (n : Nat) (w : World) (hn : n ≤ 1000) :
    Calls Try.prog 67 #[.int .i64 n] w fun e w' => e = .returned (.string (zerosB n)) ∧ w = w' := by
  go_enter Try.func67, Try.ntmps67
  go_wp2
  go_loop [3, 4] (fun s i => ∃ k : Nat, k ≤ n ∧ i = .int .i64 k ∧ s = .string (zerosB k)) (fun _ i => n - (intOf i).toNat)
  case atStart => exact ⟨0, Nat.zero_le _, rfl, rfl⟩
  case round =>
    obtain ⟨k, hk, rfl, rfl⟩ := hrel
    have hz := zeros_size k
    by_cases h8 : k < n
    · go_wp2
      go_round
      case rel => exact ⟨k + 1, by omega, by go_num, str_eq (zeros_succ k)⟩
      case measure => simp [intOf]; omega
    · obtain rfl : k = n := by omega
      go_wp2
      go_ret
      exact ⟨rfl, rfl⟩
/-- a text's first m bytes -/
def cutS (m : Nat) (s : ByteArray) : ByteArray := if m < s.size then s.extract 0 m else s
theorem cut_size (m : Nat) (s : ByteArray) : (cutS m s).size ≤ m := by
  unfold cutS
  split
  · rw [ByteArray.size_extract]; omega
  · omega
theorem cut_pos {m : Nat} {s : ByteArray} (h : m < s.size) : cutS m s = s.extract 0 m := by unfold cutS; rw [if_pos h]
theorem cut_neg {m : Nat} {s : ByteArray} (h : ¬ m < s.size) : cutS m s = s := by unfold cutS; rw [if_neg h]
/-- a sector's text, from any -/
def wholeS (s : ByteArray) : ByteArray := cutS 128 s ++ zerosB (128 - (cutS 128 s).size)
theorem whole_size (s : ByteArray) : (wholeS s).size = 128 := by
  have := cut_size 128 s
  unfold wholeS
  rw [ByteArray.size_append, zeros_size]
  omega
/-- one text's first k bytes, and then another one's -/
def tornS (old text : ByteArray) (k : Nat) : ByteArray := text.extract 0 k ++ old.extract k 128
theorem torn_size (old text : ByteArray) (k : Nat) (ho : old.size = 128) (ht : text.size = 128) (hk : k ≤ 128) : (tornS old text k).size = 128 := by
  unfold tornS
  rw [ByteArray.size_append, ByteArray.size_extract, ByteArray.size_extract]
  omega
theorem bytes_eq {a b : ByteArray} (h : a.data.toList = b.data.toList) : a = b := ByteArray.ext (Array.toList_inj.1 h)
theorem toList_inj {a b : ByteArray} (h : a.toList = b.toList) : a = b := by
  rw [ByteArray.toList_eq, ByteArray.toList_eq] at h
  exact ByteArray.ext (Array.toList_inj.1 h)
theorem below_alloc (w : World) (o : Obj) : Below w.heap.size w (w.alloc o) := (Below.refl _ w).alloc (Nat.le_refl _) o
theorem below_drewN {B : Nat} {a w : World} (h : Below B a w) (n : Nat) : Below B a (w.drewN n) := ⟨h.os, h.tape, h.output, h.size, h.block⟩
theorem ret_bool {a b : Bool} (h : a = b) : Ending.returned (.bool a) = .returned (.bool b) := by rw [h]
theorem ret_two {a b : ByteArray} {x y : Int} (h : a = b) (h2 : x = y) : Ending.returned (.tuple #[.string a, .int .i64 x]) = .returned (.tuple #[.string b, .int .i64 y]) := by rw [h, h2]
theorem keepC {w w' : World} {p : Addr} {v : Value} (hB : Below w.heap.size w w') (hc : w.cell? p = some v) : w'.cell? p = some v := (hB.cell (World.block_lt_of_cell? _ _ hc)).trans hc
theorem keepF {w w' : World} {p : Addr} {v : Value} (hB : Below w.heap.size w w') (hc : w.cell? p = some v) (hf : w.frozen? p = false) : w'.frozen? p = false := (hB.frozen (World.block_lt_of_cell? _ _ hc)).trans hf
theorem lt_of_row {w : World} {B : Nat} {o : Obj} (h : w.heap[B]? = some o) : B < w.heap.size := (Array.getElem?_eq_some_iff.1 h).1
theorem keepB {w w' : World} {B : Nat} {o : Obj} (hB : Below w.heap.size w w') (h : w.heap[B]? = some o) : w'.heap[B]? = some o := (hB.block B (lt_of_row h)).trans h
end Go.Proofs.Ytmjbhmmcpjhmcaa
