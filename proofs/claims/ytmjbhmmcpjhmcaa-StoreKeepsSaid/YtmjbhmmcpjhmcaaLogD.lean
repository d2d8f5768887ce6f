/-
  The greatest first byte; a disk of one's own; what is to be written.
-/
import Derived.Test.YtmjbhmmcpjhmcaaLogC
import Derived.Test.YtmjbhmmcpjhmcaaDiskOwn
import Derived.Test.YtmjbhmmcpjhmcaaROpen3
import Derived.Deep.AppendLies
namespace Go.Proofs.Ytmjbhmmcpjhmcaa
open Go.RowKit
set_option linter.unusedVariables false

/-- the greatest of a number and of first bytes up to 250 -/
def topZ : List ByteArray → Int → Int
  | [], g => g
  | t :: r, g => topZ r (if gOf t ≤ 250 then max g (gOf t) else g)
theorem top_snoc (l : List ByteArray) (t : ByteArray) (g : Int) : topZ (l ++ [t]) g = if gOf t ≤ 250 then max (topZ l g) (gOf t) else topZ l g := by
  induction l generalizing g with
  | nil => rfl
  | cons a r ih => exact ih _
theorem take_snoc (ss : List ByteArray) (k : Nat) (hk : k < ss.length) : ss.take (k + 1) = ss.take k ++ [secA ss k] := by
  rw [List.take_succ_eq_append_getElem hk]
  unfold secA
  rw [List.getD_eq_getElem?_getD, List.getElem?_eq_getElem hk]
  rfl
theorem top_yes (ss : List ByteArray) (k : Nat) (hk : k < ss.length) (g : Int) (h : gOf (secA ss k) ≤ 250) : topZ (ss.take (k + 1)) g = max (topZ (ss.take k) g) (gOf (secA ss k)) := by rw [take_snoc ss k hk, top_snoc, if_pos h]
theorem top_no (ss : List ByteArray) (k : Nat) (hk : k < ss.length) (g : Int) (h : 250 < gOf (secA ss k)) : topZ (ss.take (k + 1)) g = topZ (ss.take k) g := by rw [take_snoc ss k hk, top_snoc, if_neg (by omega)]
set_option maxRecDepth 100000 in
set_option maxHeartbeats 1600000 in
theorem top_any (oa : Option Addr) (n cap : Nat) (ss : List ByteArray) (g : Int) (w : World) (hR : Rd w oa n cap ss) (hL : logB ss = true) :
    Calls Try.prog 39 #[.agg #[.slice oa n cap], .int .i64 g] w fun e w' => e = .returned (.int .i64 (topZ ss g)) ∧ Below w.heap.size w w' := by
  have hlen := Lib.hid hR.len
  have hn : n ≤ 1000 := by have := hR.len; have := (log_bounds hL).2; omega
  have hB0 := below_alloc w (.cells #[.slice oa n cap] 24)
  go_enter Try.func39, Try.ntmps39
  go_wp2_with fail
  go_loop [1, 11] (fun a i => ∃ k : Nat, k ≤ n ∧ i = .int .i64 k ∧ a = .int .i64 (topZ (ss.take k) g)) (fun _ i => n - (intOf i).toNat)
  case atStart => exact ⟨0, Nat.zero_le _, rfl, rfl⟩
  case round =>
    obtain ⟨k, hk, rfl, rfl⟩ := hrel
    by_cases h8 : k < n
    · obtain ⟨b, rfl, hc⟩ := hR.cell k h8
      have hkl : Hid (k < ss.length) := by have := hlen.out; show _ < _; omega
      have hc' := keepC hB0 hc
      have hs : Hid ((secA ss k).size = 128) := sec_size hL hkl.out
      have hc2 : (w.alloc (.cells #[.slice (some ⟨b, 0, none⟩) n cap] 24)).cell? ⟨b, k, none⟩ = some (.string (secA ss k)) := hc'
      clear hc hc'
      obtain ⟨hg1, hg2⟩ := g_bounds (secA ss k)
      have hix : ∀ V : World, (Instr.index 9 (.string (secA ss k)) (.int .i64 0)).run Try.prog V = .ok (.int .u8 (gOf (secA ss k))) V := fun V => index_run (secA ss k) 0 (by rw [hs.out]; omega) _ rfl V
      have E1 := Lib.hid (top_yes ss k hkl.out g)
      have E2 := Lib.hid (top_no ss k hkl.out g)
      generalize secA ss k = T at *
      generalize gOf T = x at *
      generalize topZ (ss.take k) g = m at *
      by_cases hx : x ≤ 250
      · have E := E1.out hx
        have HM := Lib.hid E
        clear E
        by_cases hmx : m < x
        · have HX : Hid (max m x = x) := by show _ = _; omega
          go_wp2
          go_round
          case rel => exact ⟨k + 1, by omega, by go_num, by rw [HM.out, HX.out]⟩
          case measure => simp [intOf]; omega
        · have HX : Hid (max m x = m) := by show _ = _; omega
          go_wp2
          go_round
          case rel => exact ⟨k + 1, by omega, by go_num, by rw [HM.out, HX.out]⟩
          case measure => simp [intOf]; omega
      · have HM := Lib.hid (E2.out (by omega))
        go_wp2
        go_round
        case rel => exact ⟨k + 1, by omega, by go_num, by rw [HM.out]⟩
        case measure => simp [intOf]; omega
    · obtain rfl : k = n := by omega
      have E := Lib.hid (List.take_of_length_le (l := ss) (i := k) (by have := hlen.out; omega))
      rw [E.out]
      go_wp2
      go_ret
      exact ⟨rfl, hB0⟩
end Go.Proofs.Ytmjbhmmcpjhmcaa
