/-
  What the sum's functions do, one contract each: the step, the closure over the register, More and Sum, and the reference's.
-/
import Derived.Test.YtmjbhmmcpjhmcaaTexts
import Derived.Test.YtmjbhmmcpjhmcaaSumMath
import Derived.WalkKit
import Derived.ProofKit
import Derived.LoopTactic
import Derived.OneCell
import Derived.Lib.Hide
import Derived.Laws.BitsAllLaws
import Derived.Outline
namespace Go.Proofs.Ytmjbhmmcpjhmcaa
open Go.RowKit Math
set_option linter.unusedVariables false

theorem x32 (a b : Nat) (ha : a < 4294967296) (hb : b < 4294967296) : bits .xor .u32 (a : Int) (b : Int) = ((a ^^^ b : Nat) : Int) := u32_xor_nat a b ha hb
theorem x32_step (r : Nat) (h : r < 4294967296) (ho : r % 2 = 1) : bits .xor .u32 ((r : Int) / 2) 3988292384 = (step1 r : Int) := by
  unfold step1
  rw [if_pos ho]
  exact x32 (r / 2) 3988292384 (by omega) (by omega)
theorem step_even (r : Nat) (ho : ¬ r % 2 = 1) : (r : Int) / 2 = (step1 r : Int) := by
  unfold step1
  rw [if_neg ho]
  rfl

set_option maxHeartbeats 400000 in
theorem step_any (r : Nat) (w : World) (h : r < 4294967296) :
    Calls Try.prog 94 #[.int .u32 r] w fun e w' => e = .returned (.int .u32 (step1 r)) ∧ w = w' := by
  by_cases ho : r % 2 = 1
  · have h1 : (((r : Int) % 2) == 1) = true := by simp; omega
    go_enter Try.func94, Try.ntmps94
    go_wp2
    go_ret
    exact ⟨ret_int (x32_step r h ho), rfl⟩
  · have h1 : (((r : Int) % 2) == 1) = false := by simp; omega
    go_enter Try.func94, Try.ntmps94
    go_wp2
    go_ret
    exact ⟨ret_int (step_even r ho), rfl⟩

/-- the register's block -/
def Reg (w : World) (B r : Nat) : Prop := w.heap[B]? = some (.cells #[.int .u32 r] 121 (0, 0))

theorem Reg.cell {w : World} {B r : Nat} (h : Reg w B r) : w.cell? ⟨B, 0, none⟩ = some (.int .u32 r) := cell_of_one h
theorem Reg.free {w : World} {B r : Nat} (h : Reg w B r) : w.frozen? ⟨B, 0, none⟩ = false := free_of_one h
theorem Reg.set {w : World} {B r : Nat} (h : Reg w B r) {x : Int} (s : Nat) (hx : x = s) : Reg (w.setCell ⟨B, 0, none⟩ (.int .u32 x)) B s := by
  subst hx; exact one_setCell h
theorem size_setCell (w : World) (a : Addr) (v : Value) : (w.setCell a v).heap.size = w.heap.size := by simp [World.setCell]

set_option maxHeartbeats 800000 in
theorem take_any (b : Nat) (B r : Nat) (w : World) (hb : b < 256) (hr : r < 4294967296) (hR : Reg w B r) :
    Calls Try.prog 93 #[.int .u8 b, .pointer (some ⟨B, 0, none⟩)] w fun e w' => e = .returned (.tuple #[]) ∧ Reg w' B (upd r b) ∧ Below B w w' ∧ w'.heap.size = w.heap.size := by
  have hc := hR.cell
  have hf := hR.free
  go_enter Try.func93, Try.ntmps93
  go_wp2
  go_loopw [7] (fun i wr => ∃ k : Nat, k ≤ 8 ∧ i = .int .i64 k ∧ Reg wr B (steps k (r ^^^ b)) ∧ Below B w wr ∧ Hid (wr.heap.size = w.heap.size)) (fun i _ => 8 - (intOf i).toNat)
  case atStart => exact ⟨0, Nat.zero_le _, rfl, hR.set _ (x32 r b hr (by omega)), (Below.refl B w).setCell (p := ⟨B, 0, none⟩) (Nat.le_refl _) _, size_setCell _ _ _⟩
  case round =>
    obtain ⟨k, hk, rfl, hRk, hB, hS⟩ := hrel
    have hlt := steps_lt k (xor_lt hr (b := b) (by omega))
    clear hc hf
    have hc := hRk.cell
    have hf := hRk.free
    by_cases h8 : k < 8
    · go_wp2_with (go_at_call 94; refine (step_any _ _ hlt).mono ?_; rintro e w' ⟨rfl, rfl⟩)
      go_roundw
      case rel => exact ⟨k + 1, by omega, by go_num, hRk.set _ rfl, hB.setCell (Nat.le_refl _) _, (size_setCell _ _ _).trans hS.out⟩
      case measure => simp [intOf]; omega
    · obtain rfl : k = 8 := by omega
      go_wp2
      go_end0
      exact ⟨rfl, hRk, hB, hS⟩

def low32 (n : Int) : Nat := (n % 4294967296).toNat
theorem low32_lt (n : Int) : low32 n < 4294967296 := by unfold low32; omega
theorem low32_cast (n : Int) : n % 4294967296 = (low32 n : Int) := by unfold low32; omega
theorem max32 : IntKind.u32.max = 4294967295 := by decide
theorem not_cast (r : Nat) (hr : r < 4294967296) : bits .xor .u32 IntKind.u32.max (r : Int) = (not32 r : Int) := by
  rw [max32]
  have h : ∀ c : Nat, c < 4294967296 → bits .xor .u32 (c : Int) (r : Int) = (xorC c r : Int) := fun c hc => x32 c r hc hr
  exact h 4294967295 (by omega)
theorem not_low (n : Int) : bits .xor .u32 IntKind.u32.max (n % 4294967296) = (not32 (low32 n) : Int) := by
  rw [low32_cast]; exact not_cast _ (low32_lt n)
/-- a text's bytes, as numbers -/
def bl (s : ByteArray) : List Nat := s.data.toList.map UInt8.toNat
theorem bl_length (s : ByteArray) : (bl s).length = s.size := by unfold bl; rw [List.length_map]; rfl
theorem bl_lt (s : ByteArray) : ∀ b ∈ bl s, b < 256 := by
  intro b hb
  obtain ⟨u, _, rfl⟩ := List.mem_map.1 hb
  exact u.toNat_lt
theorem bl_take (s : ByteArray) (k : Nat) (h : k < s.size) : (bl s).take (k + 1) = (bl s).take k ++ [s[k].toNat] := by
  rw [List.take_succ_eq_append_getElem (by rw [bl_length]; exact h)]
  congr 2
  unfold bl
  rw [List.getElem_map]
  rfl
/-- the sum of a text behind one whose sum is n's low 32 bits -/
def moreN (n : Int) (l : List Nat) : Nat := not32 (reg (not32 (low32 n)) l)
theorem regk_lt (n : Int) (s : ByteArray) (k : Nat) : reg (not32 (low32 n)) ((bl s).take k) < 4294967296 :=
  reg_lt (fun b hb => bl_lt s b (List.mem_of_mem_take hb)) (not32_lt (low32_lt n))
theorem regk_succ (n : Int) (s : ByteArray) (k : Nat) (h : k < s.size) :
    upd (reg (not32 (low32 n)) ((bl s).take k)) s[k].toNat = reg (not32 (low32 n)) ((bl s).take (k + 1)) := by
  rw [bl_take s k h, reg_append]; rfl
theorem reg_new (w : World) (x : Int) (r : Nat) (h : x = r) : Reg (w.alloc (.cells #[.int .u32 x] 121)) w.heap.size r := by
  subst h; exact (MapKept.heap_alloc w _).1

theorem moreN_lt (n : Int) (s : ByteArray) : moreN n (bl s) < 4294967296 := not32_lt (reg_lt (bl_lt s) (not32_lt (low32_lt n)))
theorem more_end (n : Int) (s : ByteArray) : wrap64 (bits .xor .u32 IntKind.u32.max ((reg (not32 (low32 n)) ((bl s).take s.size) : Nat) : Int)) = (moreN n (bl s) : Int) := by
  rw [not_cast _ (regk_lt n s s.size), List.take_of_length_le (by rw [bl_length]; exact Nat.le_refl _)]
  have := moreN_lt n s
  unfold moreN at *
  exact IntWalk.wrap64_in _ ⟨by omega, by omega⟩

set_option maxHeartbeats 800000 in
theorem more_any (n : Int) (s : ByteArray) (w : World) (hs : s.size ≤ maxLen) :
    Calls Try.prog 92 #[.int .i64 n, .string s] w fun e w' => e = .returned (.int .i64 (moreN n (bl s))) ∧ Below w.heap.size w w' := by
  have hmf : ∀ (fn : Fn) (first cap : Array Value) (w : World), (Instr.makeFunc fn first cap).run Try.prog w = .ok (.func fn first cap) w := fun _ _ _ _ => rfl
  unfold maxLen at hs
  go_enter Try.func92, Try.ntmps92
  go_wp2
  go_loopw [14] (fun i wr => ∃ k : Nat, k ≤ s.size ∧ i = .int .i64 k ∧ Reg wr w.heap.size (reg (not32 (low32 n)) ((bl s).take k)) ∧ Below w.heap.size w wr) (fun i _ => s.size - (intOf i).toNat)
  case atStart => exact ⟨0, Nat.zero_le _, rfl, reg_new w _ _ (not_low n), (Below.refl _ w).alloc (Nat.le_refl _) _⟩
  case round =>
    obtain ⟨k, hk, rfl, hRk, hB⟩ := hrel
    have hlt := regk_lt n s k
    have hc := hRk.cell
    have hf := hRk.free
    by_cases h8 : k < s.size
    · go_wp2_with (go_at_call 93; refine (take_any _ _ _ _ (UInt8.toNat_lt _) hlt hRk).mono ?_; rintro e w' ⟨rfl, hR1, hB1, hS1⟩)
      go_roundw
      case rel => exact ⟨k + 1, by omega, by go_num, by rw [← regk_succ n s k h8]; exact hR1, hB.trans hB1⟩
      case measure => simp [intOf]; omega
    · obtain rfl : k = s.size := by omega
      go_wp2
      go_ret
      exact ⟨ret_int (more_end n s), hB⟩
end Go.Proofs.Ytmjbhmmcpjhmcaa
