/-
  A hash that lies in memory, a text behind it; the document's own.
-/
import Derived.Test.YtkffaimemmgfeaaDoorLabB
import Derived.Test.YtkffaimemmgfeaaDoorFinM
import Derived.Laws.BitsAllLaws
import Derived.StillTailTactics
namespace Go.Proofs.YtkffaimemmgfeaaDoor
open Go.RowKit Fnv
set_option linter.unusedVariables false

/-- a text's bytes, as numbers -/
def bl (s : ByteArray) : List Nat := s.data.toList.map UInt8.toNat
theorem bl_length (s : ByteArray) : (bl s).length = s.size := by unfold bl; rw [List.length_map]; rfl
theorem bl_lt (s : ByteArray) : ∀ b ∈ bl s, b < 256 := by
  intro b hb
  obtain ⟨u, _, rfl⟩ := List.mem_map.1 hb
  exact u.toNat_lt
theorem bl_take (s : ByteArray) (k : Nat) (h : k < s.size) : (bl s).take (k + 1) = (bl s).take k ++ [(s[k]'h).toNat] := by
  rw [List.take_succ_eq_append_getElem (by rw [bl_length]; exact h)]
  congr 2
  unfold bl
  rw [List.getElem_map]
  rfl
theorem fnR_next (s : ByteArray) (h k : Nat) (hk : k < s.size) : fn1 (fnR h ((bl s).take k)) (s[k]'hk).toNat = fnR h ((bl s).take (k + 1)) := by
  rw [bl_take s k hk, fnR_append, fnR_one]
theorem fnR_all (s : ByteArray) (h : Nat) : fnR h ((bl s).take s.size) = fnR h (bl s) := by
  rw [List.take_of_length_le (by rw [bl_length]; exact Nat.le_refl _)]

/-- the hash that lies at a block -/
def HReg (w : World) (B h : Nat) : Prop := w.heap[B]? = some (.cells #[.int .u64 (h : Int)] 36 (0, 0))
theorem HReg.cell {w : World} {B h : Nat} (H : HReg w B h) : w.cell? ⟨B, 0, none⟩ = some (.int .u64 (h : Int)) := cell_of_one H
theorem HReg.free {w : World} {B h : Nat} (H : HReg w B h) : w.frozen? ⟨B, 0, none⟩ = false := free_of_one H
theorem HReg.set {w : World} {B h : Nat} (H : HReg w B h) {x : Int} (s : Nat) (hx : x = s) : HReg (w.setCell ⟨B, 0, none⟩ (.int .u64 x)) B s := by
  subst hx; exact one_setCell H
theorem HReg.fresh (w : World) (h : Nat) : HReg (w.alloc (.cells #[.int .u64 (h : Int)] 36)) w.heap.size h := (MapKept.heap_alloc w _).1
theorem HReg.drew {w : World} {B h : Nat} (H : HReg w B h) : HReg w.drew B h := H
theorem size_set (w : World) (a : Addr) (v : Value) : (w.setCell a v).heap.size = w.heap.size := by simp [World.setCell]

theorem step_is (h b : Nat) (hh : h < M64) (hb : b < 256) : IntKind.u64.wrap (bits .xor .u64 (h : Int) (IntKind.u64.wrap (b : Int)) * 1099511628211) = (fn1 h b : Int) := by
  have e0 : IntKind.u64.wrap (b : Int) = (b : Int) := by rw [IntKind.wrap_u64]; omega
  rw [e0, u64_xor_nat h b (by rw [M64_is] at hh; exact hh) (by omega), IntKind.wrap_u64]
  unfold fn1 mulF
  generalize h ^^^ b = x
  rw [show fac = 1099511628211 from rfl, show M64 = 18446744073709551616 from rfl]
  omega

set_option maxRecDepth 100000 in
set_option maxHeartbeats 800000 in
theorem add_any (s : ByteArray) (B h : Nat) (w : World) (hs : s.size ≤ 4611686018427387904) (hh : h < M64) (H : HReg w B h) :
    Calls Tryd.prog 15 #[.pointer (some ⟨B, 0, none⟩), .string s] w fun e w' => e = .returned (.tuple #[]) ∧ HReg w' B (fnR h (bl s)) ∧ Below B w w' ∧ w'.heap.size = w.heap.size ∧ ∀ b, b ≠ B → w'.heap[b]? = w.heap[b]? := by
  go_enter Tryd.func15, Tryd.ntmps15
  go_wp2_with fail
  go_loopw [7] (fun i wr => ∃ k : Nat, k ≤ s.size ∧ i = .int .i64 k ∧ HReg wr B (fnR h ((bl s).take k)) ∧ Below B w wr ∧ Hid (wr.heap.size = w.heap.size) ∧ Hid (∀ b, b ≠ B → wr.heap[b]? = w.heap[b]?)) (fun i _ => s.size - (intOf i).toNat)
  case atStart => exact ⟨0, Nat.zero_le _, rfl, H, Below.refl B w, rfl, fun _ _ => rfl⟩
  case round =>
    obtain ⟨k, hk, rfl, hR, hB, hS, hO⟩ := hrel
    clear H
    by_cases hlt : k < s.size
    · have hst := step_is (fnR h ((bl s).take k)) ((s[k]'hlt).toNat) (fnR_lt hh) (UInt8.toNat_lt _)
      have hnx := fnR_next s h k hlt
      generalize fnR h ((bl s).take k) = x at *
      have hc := hR.cell
      have hf := hR.free
      go_wp2_with fail
      go_still_tail 11, (by kernel_rfl)
      change wpList _ _ _ _ _ (World.drew _)
      go_wp2_with fail
      go_roundw
      case rel =>
        have h1 : HReg (wr.setCell ⟨B, 0, none⟩ (.int .u64 ((fnR h (List.take (k + 1) (bl s)) : Nat) : Int))).drew B (fnR h (List.take (k + 1) (bl s))) := (hR.set _ rfl).drew
        have h2 := (hB.setCell (p := ⟨B, 0, none⟩) (Nat.le_refl _) (.int .u64 ((fnR h (List.take (k + 1) (bl s)) : Nat) : Int))).drew
        exact ⟨k + 1, by omega, by go_num, h1, h2, (size_set _ _ _).trans hS.out, fun b hb => (Below.heap_setCell wr ⟨B, 0, none⟩ _ b hb).trans (hO.out b hb)⟩
      case measure => simp [intOf]; omega
    · obtain rfl : k = s.size := by omega
      rw [fnR_all] at hR
      go_wp2_with fail
      go_end0
      exact ⟨rfl, hR, hB, hS, hO.out⟩

set_option maxRecDepth 100000 in
set_option maxHeartbeats 800000 in
theorem more_any (h : Nat) (s : ByteArray) (w : World) (hs : s.size ≤ 4611686018427387904) (hh : h < M64) :
    Calls Tryd.prog 7 #[.int .u64 (h : Int), .string s] w fun e w' => e = .returned (.int .u64 (fnR h (bl s) : Nat)) ∧ Below w.heap.size w w' := by
  have HA := add_any s w.heap.size h (w.alloc (.cells #[.int .u64 (h : Int)] 36)) hs hh (HReg.fresh w h)
  go_enter Tryd.func7, Tryd.ntmps7
  go_wp2_with fail
  refine HA.mono ?_
  rintro e w1 ⟨rfl, R1, B1, S1, _⟩
  have hc := R1.cell
  have B2 := ((Below.refl w.heap.size w).alloc (Nat.le_refl _) _).trans B1
  clear HA B1
  go_wp2_with fail
  go_ret
  exact ⟨rfl, B2⟩
set_option maxRecDepth 100000 in
set_option maxHeartbeats 800000 in
theorem refMore_any (h : Nat) (s : ByteArray) (w : World) (hs : s.size ≤ 4611686018427387904) (hh : h < M64) :
    Calls Tryd.prog 8 #[.int .u64 (h : Int), .string s] w fun e w' => e = .returned (.int .u64 (fnR h (bl s) : Nat)) ∧ Below w.heap.size w w' := by
  go_enter Tryd.func8, Tryd.ntmps8
  go_wp2_with fail
  go_loopw [0, 5] (fun s0 s5 wr => ∃ k : Nat, k ≤ s.size ∧ s5 = .int .i64 k ∧ s0 = .int .u64 (fnR h ((bl s).take k) : Nat) ∧ Below w.heap.size w wr) (fun _ s5 _ => s.size - (intOf s5).toNat)
  case atStart => exact ⟨0, Nat.zero_le _, rfl, rfl, Below.refl _ _⟩
  case round =>
    obtain ⟨k, hk, rfl, rfl, hB⟩ := hrel
    by_cases hlt : k < s.size
    · have hst := step_is (fnR h ((bl s).take k)) ((s[k]'hlt).toNat) (fnR_lt hh) (UInt8.toNat_lt _)
      have hnx := Lib.hid (fnR_next s h k hlt)
      generalize fnR h ((bl s).take k) = x at *
      go_wp2_with fail
      go_roundw
      case rel => exact ⟨k + 1, by omega, by go_num, by rw [← hnx.out, ← hst], hB⟩
      case measure => simp [intOf]; omega
    · obtain rfl : k = s.size := by omega
      rw [fnR_all]
      go_wp2_with fail
      go_ret
      exact ⟨rfl, hB⟩
end Go.Proofs.YtkffaimemmgfeaaDoor
