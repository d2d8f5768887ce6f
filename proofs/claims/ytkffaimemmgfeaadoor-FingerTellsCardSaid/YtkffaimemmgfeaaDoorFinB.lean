/-
  The document's own digits; Go's own table for the lowest bit, and what stands on it.
-/
import Derived.Test.YtkffaimemmgfeaaDoorFinA
import Derived.Lib.LaidTab
namespace Go.Proofs.YtkffaimemmgfeaaDoor
open Go.RowKit Fnv
set_option linter.unusedVariables false

/-- bytes as a text -/
def tx (l : List UInt8) : ByteArray := ⟨l.toArray⟩
theorem tx_append (a b : List UInt8) : tx a ++ tx b = tx (a ++ b) := by
  unfold tx
  apply ByteArray.ext
  rw [ByteArray.data_append]
  simp
theorem tx_size (l : List UInt8) : (tx l).size = l.length := by unfold tx ByteArray.size; simp
theorem tx_data (l : List UInt8) : (tx l).data.toList = l := by unfold tx; simp
theorem tx_inj {a b : List UInt8} (h : tx a = tx b) : a = b := by rw [← tx_data a, h, tx_data]
def digS : ByteArray := ⟨#[48, 49, 50, 51, 52, 53, 54, 55, 56, 57, 97, 98, 99, 100, 101, 102]⟩
theorem digS_all : ∀ d, d < 16 → digS.extract d (d + 1) = tx [digB d] := by decide
theorem hexK_step (k h : Nat) : digS.extract (h / 16 ^ k % 16) (h / 16 ^ k % 16 + 1) ++ tx (hexK k h) = tx (hexK (k + 1) h) := by
  rw [digS_all _ (Nat.mod_lt _ (by omega)), tx_append, hexK_front]; rfl

set_option maxRecDepth 100000 in
set_option maxHeartbeats 800000 in
theorem refHex_any (h : Nat) (w : World) (hh : h < M64) :
    Calls Tryd.prog 10 #[.int .u64 (h : Int)] w fun e w' => e = .returned (.string (tx (hexL h))) ∧ Below w.heap.size w w' := by
  go_enter Tryd.func10, Tryd.ntmps10
  go_wp2_with fail
  go_loopw [0, 3, 4] (fun s0 s3 s4 wr => ∃ k : Nat, k ≤ 16 ∧ s4 = .int .i64 k ∧ s0 = .int .u64 ((h / 16 ^ k : Nat) : Int) ∧ s3 = .string (tx (hexK k h)) ∧ Below w.heap.size w wr) (fun _ _ s4 _ => 16 - (intOf s4).toNat)
  case atStart => exact ⟨0, Nat.zero_le _, rfl, by simp, rfl, Below.refl _ _⟩
  case round =>
    obtain ⟨k, hk, rfl, rfl, rfl, hB⟩ := hrel
    by_cases hlt : k < 16
    · obtain ⟨x, hx⟩ : ∃ x, h / 16 ^ k = x := ⟨_, rfl⟩
      obtain ⟨y, hy⟩ : ∃ y, h / 16 ^ (k + 1) = y := ⟨_, rfl⟩
      have hxy : x / 16 = y := by rw [← hx, ← hy, Nat.pow_succ, Nat.div_div_eq_div_mul]
      have hxl : x < M64 := by rw [← hx]; exact Nat.lt_of_le_of_lt (Nat.div_le_self _ _) hh
      have hst := hexK_step k h
      have hz := tx_size (hexK k h)
      rw [hexK_length] at hz
      rw [hx] at hst ⊢
      rw [M64_is] at hxl
      have e1 : wrap64 ((x : Int).tmod 16) = ((x % 16 : Nat) : Int) := by rw [Int.tmod_eq_emod_of_nonneg (by omega)]; unfold wrap64; omega
      have e3 : IntKind.u64.wrap ((x : Int).tdiv 16) = ((x / 16 : Nat) : Int) := by rw [Int.tdiv_eq_ediv_of_nonneg (by omega), IntKind.wrap_u64]; omega
      have HD : Hid (digS.extract (x % 16) (x % 16 + 1) ++ tx (hexK k h) = tx (hexK (k + 1) h)) := hst
      have HY : Hid (h / 16 ^ (k + 1) = x / 16) := by show _ = _; rw [hy, hxy]
      clear hst hy hx hxy
      generalize tx (hexK k h) = t at *
      go_wp2_with fail
      go_roundw
      case rel => exact ⟨k + 1, by omega, by go_num, by rw [HY.out]; push_cast; rfl, by rw [← HD.out]; rfl, hB⟩
      case measure => simp [intOf]; omega
    · obtain rfl : k = 16 := by omega
      go_wp2_with fail
      go_ret
      exact ⟨rfl, hB⟩

set_option maxRecDepth 100000 in
set_option maxHeartbeats 800000 in
theorem pow2_any (w : World) :
    Calls Tryd.prog 54 #[.int .i64 16] w fun e w' => e = .returned (.bool true) ∧ w = w' := by
  have e1 : bits .and .i64 16 15 = 0 := by kernel_rfl
  go_enter Tryd.func54, Tryd.ntmps54
  go_wp2_with fail
  go_ret
  exact ⟨rfl, rfl⟩
set_option maxRecDepth 100000 in
set_option maxHeartbeats 800000 in
theorem tz64_any (w : World) (hT : w.cell? ⟨3, 15, none⟩ = some (.int .u8 4)) :
    Calls Tryd.prog 60 #[.int .u64 16] w fun e w' => e = .returned (.int .i64 4) ∧ w = w' := by
  have e1 : IntKind.u64.wrap (bits .and .u64 16 (IntKind.u64.wrap (-16)) * 285870213051353865) / 288230376151711744 = 15 := by kernel_rfl
  go_enter Tryd.func60, Tryd.ntmps60
  go_wp2_with fail
  go_ret
  exact ⟨rfl, rfl⟩
set_option maxRecDepth 100000 in
set_option maxHeartbeats 800000 in
theorem tz_any (w : World) (hT : w.cell? ⟨3, 15, none⟩ = some (.int .u8 4)) :
    Calls Tryd.prog 55 #[.int .u64 16] w fun e w' => e = .returned (.int .i64 4) ∧ w = w' := by
  go_enter Tryd.func55, Tryd.ntmps55
  go_wp2_with fail
  refine (tz64_any _ hT).mono ?_
  rintro e w1 ⟨rfl, rfl⟩
  go_wp2_with fail
  go_ret
  exact ⟨rfl, rfl⟩
end Go.Proofs.YtkffaimemmgfeaaDoor
