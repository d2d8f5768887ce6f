/-
  The program's own: a number, and a text, as bytes.
-/
import Derived.Test.YtopjiokbmpghjaaRcdA
import Derived.Test.YtopjiokbmpghjaaRcdB
namespace Go.Proofs.Ytopjiokbmpghjaa
open Go.RowKit Go.Shelf
set_option linter.unusedVariables false
set_option linter.unusedSimpArgs false

theorem lastN_len : ∀ (k : Nat) (t : Int), (lastN k t).length = k
  | 0, _ => rfl
  | k + 1, t => by rw [lastN, List.length_append, lastN_len k]; rfl
theorem lastN_front : ∀ (k : Nat) (t : Int), lastN (k + 1) t = b1 (t / 2 ^ (8 * k) % 256) :: lastN k t
  | 0, t => by simp [lastN]
  | k + 1, t => by
    have h := lastN_front k (t / 256)
    rw [lastN, h, lastN]
    have : t / 256 / 2 ^ (8 * k) = t / 2 ^ (8 * (k + 1)) := by
      rw [Int.ediv_ediv_of_nonneg (by decide : (0 : Int) ≤ 256)]
      rw [show (8 * (k + 1)) = 8 * k + 8 by omega, Int.pow_add, Int.mul_comm]
      rfl
    rw [this]
    rfl
/-- a row that is filled from its end on -/
def rowZ (s k : Nat) (n : Int) : Array Value := ((List.replicate (s - k) (0 : UInt8) ++ lastN k n).map fun b => Value.int .u8 (b.toNat : Int)).toArray
theorem rowZ_set (s k : Nat) (n : Int) (h : k < s) : (rowZ s k n).set! (s - 1 - k) (.int .u8 ((b1 (n / 2 ^ (8 * k) % 256)).toNat : Int)) = rowZ s (k + 1) n := by
  unfold rowZ
  rw [lastN_front]
  obtain ⟨m, hm⟩ : ∃ m, s = m + 1 + k := ⟨s - 1 - k, by omega⟩
  subst hm
  rw [show m + 1 + k - k = m + 1 by omega, show m + 1 + k - 1 - k = m by omega, show m + 1 + k - (k + 1) = m by omega]
  rw [Array.set!_eq_setIfInBounds, List.setIfInBounds_toArray]
  congr 1
  rw [List.replicate_succ', List.append_assoc, List.map_append, List.map_append, List.set_append_right _ _ (by simp)]
  simp
theorem rowZ_at (s k : Nat) (n : Int) (h : k < s) : ∃ v, (rowZ s k n)[s - 1 - k]? = some v := by
  have : s - 1 - k < (rowZ s k n).size := by
    unfold rowZ
    simp [lastN_len]
    omega
  exact ⟨_, Array.getElem?_eq_getElem this⟩
theorem row_text (k : Nat) (n : Int) (w : World) (X : Nat) (h : Vals w X 5 (rowZ k k n)) :
    (convert 69 9 (.slice (some ⟨X, 0, none⟩) k k)).run Try.prog w = .ok (.string (tx (lastN k n))) w := by
  have e : rowZ k k n = ((lastN k n).map fun b => Value.int .u8 (b.toNat : Int)).toArray := by
    unfold rowZ
    rw [Nat.sub_self]
    rfl
  rw [e] at h
  have hl := lastN_len k n
  generalize lastN k n = l at *
  have h' := run_convert_bytes_arg (P := Try.prog) w 69 5 Try.underlying69 Try.underlying5 X 0 k k (l.map fun b => (b.toNat : Int)) (by simp [hl]) (fun i hi => by
    rw [h.cell]
    have hi' : i < l.length := by omega
    rw [Nat.zero_add]
    simp [List.getD_eq_getElem?_getD, hi']) 9 Try.underlying9
  rw [show strOfNums (l.map fun b => (b.toNat : Int)) = tx l by unfold strOfNums tx; simp [List.map_map, Function.comp_def]] at h'
  exact h'
set_option maxRecDepth 100000 in
set_option maxHeartbeats 3200000 in
theorem numberAs_any (s : Nat) (hs : s ≤ 6) (hs1 : 1 ≤ s) (hmk : ∀ w, (Instr.makeSlice 69 (.int .i64 (s : Int)) (.int .i64 (s : Int))).run Try.prog w = .ok (.slice (some ⟨w.heap.size, 0, none⟩) s s) (w.alloc (.cells (rowZ s 0 0) 5)))
    (n : Int) (h0 : 0 ≤ n) (h1 : n ≤ 1099511627776) (w : World) :
    Calls Try.prog 17 #[.int .i64 n, .int .i64 (s : Int)] w fun e w' => e = .returned (.string (tx (lastN s n))) ∧ Below w.heap.size w w' := by
  have V0 := Vals.new w 5 (rowZ s 0 n)
  have B0 := below_alloc w (.cells (rowZ s 0 n) 5)
  rw [show rowZ s 0 0 = rowZ s 0 n from rfl] at hmk
  go_enter Try.func17, Try.ntmps17
  go_wp2_with fail
  clear hmk
  generalize w.alloc _ = W at *
  generalize hX : w.heap.size = X at *
  go_loopw [6, 11] (fun _ s11 wr => ∃ k : Nat, k ≤ s ∧ s11 = .int .i64 k ∧ Vals wr X 5 (rowZ s k n) ∧ Below X w wr) (fun _ s11 _ => s - (intOf s11).toNat)
  case atStart => exact ⟨0, Nat.zero_le _, rfl, V0, B0⟩
  case round =>
    obtain ⟨k, hk, rfl, V, B⟩ := hrel
    by_cases hlt : k < s
    · obtain ⟨v, hv⟩ := rowZ_at s k n hlt
      have hc : wr.cell? ⟨X, s - 1 - k, none⟩ = some v := (V.cell _).trans hv
      have hf := V.free (s - 1 - k)
      have hq : ((b1 (n / 2 ^ (8 * k) % 256)).toNat : Int) = n / 2 ^ (8 * k) % 256 := b1_nat (by omega) (by omega)
      have hV := (rowZ_set s k n hlt) ▸ V.set (s - 1 - k) (.int .u8 ((b1 (n / 2 ^ (8 * k) % 256)).toNat : Int))
      rw [hq] at hV
      have hB := B.setCell (p := ⟨X, s - 1 - k, none⟩) (Nat.le_refl _) (.int .u8 (n / 2 ^ (8 * k) % 256))
      clear hq hv
      go_wp2_with fail
      go_roundw
      case rel => exact ⟨k + 1, by omega, by go_num, hV, hB⟩
      case measure => simp [intOf]; omega
    · obtain rfl : k = s := by omega
      have hcv := row_text k n wr X V
      go_wp2_with fail
      go_ret
      exact ⟨rfl, hX ▸ B⟩
theorem numberAs_one (n : Int) (h0 : 0 ≤ n) (h1 : n ≤ 255) (w : World) :
    Calls Try.prog 17 #[.int .i64 n, .int .i64 1] w fun e w' => e = .returned (.string (tx [b1 n])) ∧ Below w.heap.size w w' := by
  have h := numberAs_any 1 (by omega) (by omega) (fun _ => by kernel_rfl) n h0 (by omega) w
  rw [show lastN 1 n = [b1 n] by simp only [lastN, List.nil_append]; rw [Int.emod_eq_of_lt h0 (by omega)]] at h
  exact h
theorem numberAs_six (n : Int) (h0 : 0 ≤ n) (h1 : n ≤ 1099511627776) (w : World) :
    Calls Try.prog 17 #[.int .i64 n, .int .i64 6] w fun e w' => e = .returned (.string (tx (six n))) ∧ Below w.heap.size w w' := by
  rw [six_last]
  exact numberAs_any 6 (by omega) (by omega) (fun _ => by kernel_rfl) n h0 h1 w
set_option maxRecDepth 100000 in
set_option maxHeartbeats 800000 in
theorem textAs_any (s : ByteArray) (hs : s.size ≤ 255) (w : World) :
    Calls Try.prog 42 #[.string s] w fun e w' => e = .returned (.string (tx (txtL s))) ∧ Below w.heap.size w w' := by
  have HX : Hid (tx (txtL s) = tx [b1 (s.size : Int)] ++ s) := by
    show _ = _
    have : tx (txtL s) = tx [b1 (s.size : Int)] ++ tx s.data.toList := by rw [tx_append]; rfl
    rw [this, tx_of]
  have HO := fun w => numberAs_one (s.size : Int) (by omega) (by omega) w
  have hz := tx_one_size (b1 (s.size : Int))
  generalize tx [b1 (s.size : Int)] = y at *
  go_enter Try.func42, Try.ntmps42
  go_wp2_with fail
  refine (HO _).mono ?_
  rintro e w1 ⟨rfl, B1⟩
  go_wp2_with fail
  go_ret
  exact ⟨retS HX.out.symm, B1⟩
end Go.Proofs.Ytopjiokbmpghjaa
