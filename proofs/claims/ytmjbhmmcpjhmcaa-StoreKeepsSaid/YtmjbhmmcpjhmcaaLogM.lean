/-
  Whether a row holds a fault that may not be, or a payload that is too long; all pages of a generation.
-/
import Derived.Test.YtmjbhmmcpjhmcaaLogL
import Derived.Test.YtmjbhmmcpjhmcaaLogR
namespace Go.Proofs.Ytmjbhmmcpjhmcaa
open Go.RowKit
set_option linter.unusedVariables false

/-- the first place of a row at which it is so; -1 if there is none -/
def idxZ {α : Type} (q : α → Bool) : List α → Nat → Int
  | [], _ => -1
  | a :: l, i => if q a then (i : Int) else idxZ q l (i + 1)
theorem idx_at {α : Type} (q : α → Bool) (l : List α) (z : α) (k : Nat) (hk : k < l.length) : idxZ q (l.drop k) k = if q (l.getD k z) then (k : Int) else idxZ q (l.drop (k + 1)) (k + 1) := by
  rw [drop_at l k z hk]
  rfl
theorem idx_end {α : Type} (q : α → Bool) (l : List α) (k : Nat) (hk : l.length ≤ k) (i : Nat) : idxZ q (l.drop k) i = -1 := by
  rw [List.drop_of_length_le hk]
  rfl
theorem idx_any {α : Type} (q : α → Bool) (l : List α) (i : Nat) : decide (0 ≤ idxZ q l i) = l.any q := by
  induction l generalizing i with
  | nil => rfl
  | cons a r ih =>
    unfold idxZ
    cases h : q a
    · simp [h]
      have := ih (i + 1)
      simpa using this
    · simp [h]
set_option maxRecDepth 100000 in
set_option maxHeartbeats 800000 in
theorem indexFault_any (oa : Option Addr) (n cap : Nat) (fs : List (Int × Int)) (w : World) (hR : FRd w oa n cap fs) (hn : n ≤ 1000) :
    Calls Try.prog 72 #[.slice oa n cap, .func (.func 49) #[] #[]] w fun e w' => e = .returned (.int .i64 (idxZ (fun f => !faultB f) fs 0)) ∧ Below w.heap.size w w' := by
  have hlen := hR.len
  go_enter Try.func72, Try.ntmps72
  go_wp2_with fail
  go_loopw [8] (fun i wr => ∃ k : Nat, k ≤ n ∧ i = .int .i64 k ∧ Hid (idxZ (fun f => !faultB f) fs 0 = idxZ (fun f => !faultB f) (fs.drop k) k) ∧ Below w.heap.size w wr) (fun i _ => n - (intOf i).toNat)
  case atStart => exact ⟨0, Nat.zero_le _, rfl, rfl, Below.refl _ _⟩
  case round =>
    obtain ⟨k, hk, rfl, HI, hB⟩ := hrel
    by_cases h8 : k < n
    · obtain ⟨g, o, rfl, c1, c2⟩ := (hR.below hB (Nat.le_refl _)).cell k h8
      have HX := Lib.hid (idx_at (fun f => !faultB f) fs (0, 0) k (by omega))
      have HC := Lib.hid (isNoFault_any (fs.getD k (0, 0)) wr)
      generalize fs.getD k (0, 0) = f at *
      have hj : (k : Int) < (n : Int) := by omega
      have hj0 : (0 : Int) ≤ (k : Int) := by omega
      go_wp2_with fail
      refine HC.out.mono ?_
      rintro e w1 ⟨rfl, hB1⟩
      have hBB := hB.trans (hB1.mono hB.size)
      cases hf : faultB f
      · have HF := Lib.hid hf
        clear hf
        go_wp2
        go_ret
        exact ⟨ret_int (by rw [HI.out, HX.out, HF.out]; rfl), hBB⟩
      · have HF := Lib.hid hf
        clear hf
        go_wp2
        go_roundw
        case rel => exact ⟨k + 1, by omega, by go_num, by show _ = _; rw [HI.out, HX.out, HF.out]; rfl, hBB⟩
        case measure => simp [intOf]; omega
    · obtain rfl : k = n := by omega
      have E := Lib.hid (idx_end (fun f => !faultB f) fs k (by omega) k)
      go_wp2
      go_ret
      exact ⟨ret_int (by rw [HI.out, E.out]), hB⟩
set_option maxHeartbeats 800000 in
theorem anyFault_any (oa : Option Addr) (n cap : Nat) (fs : List (Int × Int)) (w : World) (hR : FRd w oa n cap fs) (hn : n ≤ 1000) :
    Calls Try.prog 52 #[.slice oa n cap, .func (.func 49) #[] #[]] w fun e w' => e = .returned (.bool (fs.any fun f => !faultB f)) ∧ Below w.heap.size w w' := by
  have E := Lib.hid (idx_any (fun f => !faultB f) fs 0)
  go_enter Try.func52, Try.ntmps52
  go_wp2_with fail
  refine (indexFault_any oa n cap fs _ hR hn).mono ?_
  rintro e w1 ⟨rfl, hB⟩
  generalize idxZ (fun f => !faultB f) fs 0 = i at *
  go_wp2
  go_ret
  exact ⟨ret_bool E.out, hB⟩

/-- texts that lie at a slice, wherever it begins -/
structure ARd (w : World) (oa : Option Addr) (n cap : Nat) (ss : List ByteArray) : Prop where
  len : ss.length = n
  room : n ≤ cap
  each : ∀ i, i < n → (ss.getD i ByteArray.empty).size ≤ maxLen
  cell : ∀ i, i < n → ∃ b off, oa = some ⟨b, off, none⟩ ∧ w.cell? ⟨b, off + i, none⟩ = some (.string (ss.getD i ByteArray.empty))
theorem Arg.ard {w : World} {oa : Option Addr} {n cap : Nat} {ss : List ByteArray} (h : Arg w oa n cap ss) : ARd w oa n cap ss := ⟨h.len, h.room, h.each, h.cell⟩
theorem Rd.ard {w : World} {oa : Option Addr} {n cap : Nat} {ss : List ByteArray} (h : Rd w oa n cap ss) (hs : ∀ i, i < n → (ss.getD i ByteArray.empty).size ≤ maxLen) : ARd w oa n cap ss :=
  ⟨h.len, h.room, hs, fun i hi => by obtain ⟨g, hg, hc⟩ := h.cell i hi; exact ⟨g, 0, hg, by rw [Nat.zero_add]; exact hc⟩⟩
theorem ARd.below {w w' : World} {oa : Option Addr} {n cap : Nat} {ss : List ByteArray} (h : ARd w oa n cap ss) (hB : Below w.heap.size w w') : ARd w' oa n cap ss :=
  ⟨h.len, h.room, h.each, fun i hi => by obtain ⟨b, off, hb, hc⟩ := h.cell i hi; exact ⟨b, off, hb, keepC hB hc⟩⟩
theorem ofEach {w : World} {oa : Option Addr} {n cap : Nat} {ss : List ByteArray} (hA : ARd w oa n cap ss) {w' : World} (hB : Below w.heap.size w w') {k : Nat} (hk : k < n) : ∃ b off, oa = some ⟨b, off, none⟩ ∧ w'.cell? ⟨b, off + k, none⟩ = some (.string (ss.getD k ByteArray.empty)) := by
  obtain ⟨b, off, h, hc⟩ := hA.cell k hk
  exact ⟨b, off, h, keepC hB hc⟩
set_option maxRecDepth 100000 in
set_option maxHeartbeats 800000 in
theorem indexLong_any (oa : Option Addr) (n cap : Nat) (l : List ByteArray) (w : World) (hA : ARd w oa n cap l) (hn : n ≤ 1000) :
    Calls Try.prog 73 #[.slice oa n cap, .func (.func 50) #[] #[]] w fun e w' => e = .returned (.int .i64 (idxZ longB l 0)) ∧ Below w.heap.size w w' := by
  have hlen := hA.len
  go_enter Try.func73, Try.ntmps73
  go_wp2_with fail
  go_loopw [8] (fun i wr => ∃ k : Nat, k ≤ n ∧ i = .int .i64 k ∧ Hid (idxZ longB l 0 = idxZ longB (l.drop k) k) ∧ Below w.heap.size w wr) (fun i _ => n - (intOf i).toNat)
  case atStart => exact ⟨0, Nat.zero_le _, rfl, rfl, Below.refl _ _⟩
  case round =>
    obtain ⟨k, hk, rfl, HI, hB⟩ := hrel
    by_cases h8 : k < n
    · obtain ⟨g, o, rfl, c1⟩ := ofEach hA hB h8
      have HX := Lib.hid (idx_at longB l ByteArray.empty k (by omega))
      have HC := Lib.hid (isTooLong_any (l.getD k ByteArray.empty) wr (hA.each k h8))
      generalize l.getD k ByteArray.empty = f at *
      have hj : (k : Int) < (n : Int) := by omega
      have hj0 : (0 : Int) ≤ (k : Int) := by omega
      go_wp2_with fail
      refine HC.out.mono ?_
      rintro e w1 ⟨rfl, rfl⟩
      cases hf : longB f
      · have HF := Lib.hid hf
        clear hf
        go_wp2
        go_roundw
        case rel => exact ⟨k + 1, by omega, by go_num, by show _ = _; rw [HI.out, HX.out, HF.out]; rfl, hB⟩
        case measure => simp [intOf]; omega
      · have HF := Lib.hid hf
        clear hf
        go_wp2
        go_ret
        exact ⟨ret_int (by rw [HI.out, HX.out, HF.out]; rfl), hB⟩
    · obtain rfl : k = n := by omega
      have E := Lib.hid (idx_end longB l k (by omega) k)
      go_wp2
      go_ret
      exact ⟨ret_int (by rw [HI.out, E.out]), hB⟩
set_option maxHeartbeats 800000 in
theorem anyLong_any (oa : Option Addr) (n cap : Nat) (l : List ByteArray) (w : World) (hA : ARd w oa n cap l) (hn : n ≤ 1000) :
    Calls Try.prog 53 #[.slice oa n cap, .func (.func 50) #[] #[]] w fun e w' => e = .returned (.bool (l.any longB)) ∧ Below w.heap.size w w' := by
  have E := Lib.hid (idx_any longB l 0)
  go_enter Try.func53, Try.ntmps53
  go_wp2_with fail
  refine (indexLong_any oa n cap l _ hA hn).mono ?_
  rintro e w1 ⟨rfl, hB⟩
  generalize idxZ longB l 0 = i at *
  go_wp2
  go_ret
  exact ⟨ret_bool E.out, hB⟩
end Go.Proofs.Ytmjbhmmcpjhmcaa
