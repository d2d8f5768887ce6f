/-
  What the sum's functions do, continued: Sum, the reference's step, More, Sum and Four, Four, and the reference.
-/
import Derived.Test.YtmjbhmmcpjhmcaaSumWalks
import Derived.Laws.BytesArg
namespace Go.Proofs.Ytmjbhmmcpjhmcaa
open Go.RowKit Math
set_option linter.unusedVariables false

set_option maxHeartbeats 400000 in
theorem sum_any (s : ByteArray) (w : World) (hs : s.size ≤ maxLen) :
    Calls Try.prog 91 #[.string s] w fun e w' => e = .returned (.int .i64 (moreN 0 (bl s))) ∧ Below w.heap.size w w' := by
  go_enter Try.func91, Try.ntmps91
  go_wp2_with (go_at_call 92; refine (more_any _ _ _ hs).mono ?_; rintro e w' ⟨rfl, hB⟩)
  go_ret
  exact ⟨rfl, hB⟩

set_option maxHeartbeats 800000 in
theorem rstep_any (r b : Nat) (w : World) (hb : b < 256) (hr : r < 4294967296) :
    Calls Try.prog 89 #[.int .u32 r, .int .u8 b] w fun e w' => e = .returned (.int .u32 (upd r b)) ∧ w = w' := by
  have hx := xor_lt hr (b := b) (by omega)
  have X := Lib.hid (x32 r b hr (by omega))
  go_enter Try.func89, Try.ntmps89
  go_wp2
  go_loop [0, 5] (fun q i => ∃ k : Nat, k ≤ 8 ∧ i = .int .i64 k ∧ q = .int .u32 (steps k (r ^^^ b))) (fun _ i => 8 - (intOf i).toNat)
  case atStart => exact ⟨0, Nat.zero_le _, rfl, int_eq X.out⟩
  case round =>
    obtain ⟨k, hk, rfl, rfl⟩ := hrel
    have hlt := steps_lt k hx
    by_cases h8 : k < 8
    · by_cases ho : steps k (r ^^^ b) % 2 = 1
      · have h1 : (((steps k (r ^^^ b) : Nat) : Int) % 2 == 1) = true := by simp; omega
        go_wp2
        go_round
        case rel => exact ⟨k + 1, by omega, by go_num, int_eq (x32_step _ hlt ho)⟩
        case measure => simp [intOf]; omega
      · have h1 : (((steps k (r ^^^ b) : Nat) : Int) % 2 == 1) = false := by simp; omega
        go_wp2
        go_round
        case rel => exact ⟨k + 1, by omega, by go_num, int_eq (step_even _ ho)⟩
        case measure => simp [intOf]; omega
    · obtain rfl : k = 8 := by omega
      go_wp2
      go_ret
      exact ⟨rfl, rfl⟩

theorem not_low64 (n : Int) : bits .xor .u32 IntKind.u32.max ((IntKind.u64.wrap n).tmod 4294967296 % 4294967296) = (not32 (low32 n) : Int) := by
  have e : (IntKind.u64.wrap n).tmod 4294967296 % 4294967296 = n % 4294967296 := by
    rw [IntKind.wrap_u64]
    rw [Int.tmod_eq_emod_of_nonneg (by omega)]
    omega
  rw [e]; exact not_low n
set_option maxHeartbeats 800000 in
theorem rmore_any (n : Int) (s : ByteArray) (w : World) (hs : s.size ≤ maxLen) :
    Calls Try.prog 79 #[.int .i64 n, .string s] w fun e w' => e = .returned (.int .i64 (moreN n (bl s))) ∧ w = w' := by
  unfold maxLen at hs
  go_enter Try.func79, Try.ntmps79
  go_wp2
  go_loop [5, 6] (fun q i => ∃ k : Nat, k ≤ s.size ∧ i = .int .i64 k ∧ q = .int .u32 (reg (not32 (low32 n)) ((bl s).take k))) (fun _ i => s.size - (intOf i).toNat)
  case atStart => exact ⟨0, Nat.zero_le _, rfl, int_eq (not_low64 n)⟩
  case round =>
    obtain ⟨k, hk, rfl, rfl⟩ := hrel
    have hlt := regk_lt n s k
    by_cases h8 : k < s.size
    · go_wp2_with (go_at_call 89; refine (rstep_any _ _ _ (UInt8.toNat_lt _) hlt).mono ?_; rintro e w' ⟨rfl, rfl⟩)
      go_round
      case rel => exact ⟨k + 1, by omega, by go_num, by rw [← regk_succ n s k h8]⟩
      case measure => simp [intOf]; omega
    · obtain rfl : k = s.size := by omega
      go_wp2
      go_ret
      exact ⟨ret_int (more_end n s), rfl⟩

/-- a sum's four bytes -/
def fourS (n : Int) : ByteArray := strOfNums [n / 16777216 % 256, n / 65536 % 256, n / 256 % 256, n % 256]
theorem conv4 (w : World) (a b c d : Int) : (convert 87 9 (.slice (some ⟨w.heap.size, 0, none⟩) 4 4)).run Try.prog (w.alloc (.cells #[.int .u8 a, .int .u8 b, .int .u8 c, .int .u8 d] 5)) = .ok (.string (strOfNums [a, b, c, d])) (w.alloc (.cells #[.int .u8 a, .int .u8 b, .int .u8 c, .int .u8 d] 5)) := by
  refine run_convert_bytes_arg _ 87 5 Try.underlying87 Try.underlying5 w.heap.size 0 4 4 [a, b, c, d] rfl ?_ 9 Try.underlying9
  intro i hi
  rw [World.cell?_alloc_at _ _ _ _ rfl]
  match i, hi with
  | 0, _ => rfl
  | 1, _ => rfl
  | 2, _ => rfl
  | 3, _ => rfl
set_option maxHeartbeats 400000 in
theorem four_any (n : Int) (w : World) :
    Calls Try.prog 90 #[.int .i64 n] w fun e w' => e = .returned (.string (fourS n)) ∧ Below w.heap.size w w' := by
  have hcv := conv4
  go_enter Try.func90, Try.ntmps90
  go_wp2
  go_ret
  exact ⟨rfl, (Below.refl _ w).alloc (Nat.le_refl _) _⟩
theorem tm (a b : Int) (h : 0 ≤ a) : a.tmod b = a % b := Int.tmod_eq_emod_of_nonneg h
theorem td (a b : Int) (h : 0 ≤ a) : a.tdiv b = a / b := Int.tdiv_eq_ediv_of_nonneg h
theorem rb (n : Int) : IntKind.u64.wrap (((IntKind.u64.wrap n).tmod 4294967296).tdiv 16777216) % 256 = n / 16777216 % 256 ∧
    (IntKind.u64.wrap (((IntKind.u64.wrap n).tmod 4294967296).tdiv 65536)).tmod 256 % 256 = n / 65536 % 256 ∧
    (IntKind.u64.wrap (((IntKind.u64.wrap n).tmod 4294967296).tdiv 256)).tmod 256 % 256 = n / 256 % 256 ∧
    (IntKind.u64.wrap n).tmod 256 % 256 = n % 256 := by
  simp only [IntKind.wrap_u64]
  rw [tm (n % 18446744073709551616) _ (by omega), tm (n % 18446744073709551616) _ (by omega)]
  rw [td _ _ (by omega), td _ _ (by omega), td _ _ (by omega), tm _ _ (by omega), tm _ _ (by omega)]
  refine ⟨by omega, by omega, by omega, by omega⟩
theorem rfour_eq (n : Int) : strOfNums [IntKind.u64.wrap (((IntKind.u64.wrap n).tmod 4294967296).tdiv 16777216) % 256, (IntKind.u64.wrap (((IntKind.u64.wrap n).tmod 4294967296).tdiv 65536)).tmod 256 % 256,
    (IntKind.u64.wrap (((IntKind.u64.wrap n).tmod 4294967296).tdiv 256)).tmod 256 % 256, (IntKind.u64.wrap n).tmod 256 % 256] = fourS n := by
  obtain ⟨h1, h2, h3, h4⟩ := rb n
  rw [h1, h2, h3, h4]; rfl
set_option maxHeartbeats 400000 in
theorem rfour_any (n : Int) (w : World) :
    Calls Try.prog 69 #[.int .i64 n] w fun e w' => e = .returned (.string (fourS n)) ∧ Below w.heap.size w w' := by
  have hcv := conv4
  go_enter Try.func69, Try.ntmps69
  go_wp2
  go_ret
  exact ⟨ret_str (rfour_eq n), (Below.refl _ w).alloc (Nat.le_refl _) _⟩
set_option maxHeartbeats 400000 in
theorem rsum_any (s : ByteArray) (w : World) (hs : s.size ≤ maxLen) :
    Calls Try.prog 70 #[.string s] w fun e w' => e = .returned (.int .i64 (moreN 0 (bl s))) ∧ w = w' := by
  go_enter Try.func70, Try.ntmps70
  go_wp2_with (go_at_call 79; refine (rmore_any _ _ _ hs).mono ?_; rintro e w' ⟨rfl, rfl⟩)
  go_ret
  exact ⟨rfl, rfl⟩
end Go.Proofs.Ytmjbhmmcpjhmcaa
