/-
  Names and values: texts that are short, and of some letters alone.
-/
import Derived.Test.YtopjiokbmpghjaaRows
import Derived.WalkKit
import Derived.ProofKit
import Derived.LoopTactic
import Derived.OneCell
import Derived.Lib.Hide
import Derived.Outline
import Derived.Laws.BytesArg
import Derived.Laws.IdiomStrings
import Derived.Laws.RangeAny
import Derived.Lib.OthersKept
import Derived.WalkSpells
import Derived.WalkLawsBesides
import Derived.Below
import Derived.Shelf.Abstract
namespace Go.Proofs.Ytopjiokbmpghjaa
open Go.RowKit Go.Shelf
set_option linter.unusedVariables false

theorem retI {k : IntKind} {a b : Int} (h : a = b) : Ending.returned (.int k a) = .returned (.int k b) := by rw [h]
theorem retB {a b : Bool} (h : a = b) : Ending.returned (.bool a) = .returned (.bool b) := by rw [h]
theorem retS {a b : ByteArray} (h : a = b) : Ending.returned (.string a) = .returned (.string b) := by rw [h]
theorem valI {k : IntKind} {a b : Int} (h : a = b) : Value.int k a = .int k b := by rw [h]
theorem retBE {a b : Bool} {x y : Int} (h : a = b) (h2 : x = y) : Ending.returned (.tuple #[.bool a, .int .i64 x]) = .returned (.tuple #[.bool b, .int .i64 y]) := by rw [h, h2]

/-- a letter, and what may stand in a value -/
def letN (r : Int) : Bool := decide (97 ≤ r) && decide (r ≤ 122)
def valN (r : Int) : Bool := letN r || (decide (48 ≤ r) && decide (r ≤ 57)) || decide (r = 45)
theorem letN_high (r : Int) (h : 128 ≤ r) : letN r = false := by unfold letN; simp; omega
theorem valN_high (r : Int) (h : 128 ≤ r) : valN r = false := by unfold valN; rw [letN_high r h]; simp; omega
/-- all bytes of a text -/
def allB (p : Int → Bool) (s : ByteArray) : Bool := s.data.toList.all fun b => p (b.toNat : Int)
def shortB (p : Int → Bool) (s : ByteArray) : Bool := decide (s.size ≤ 8) && allB p s
def valueB (s : ByteArray) : Bool := shortB valN s
def nameB (s : ByteArray) : Bool := decide (0 < s.size) && shortB letN s

theorem data_at (s : ByteArray) (k : Nat) (h : k < s.size) : s.data.toList[k]? = some (s[k]'h) := by
  rw [Array.getElem?_toList]
  exact Array.getElem?_eq_getElem (by simpa [ByteArray.size_data] using h)
theorem allB_at {p : Int → Bool} {s : ByteArray} (h : allB p s = true) (k : Nat) (hk : k < s.size) : p ((s[k]'hk).toNat : Int) = true := by
  unfold allB at h
  rw [List.all_eq_true] at h
  exact h _ (List.mem_of_getElem? (data_at s k hk))
theorem allB_not {p : Int → Bool} {s : ByteArray} (k : Nat) (hk : k < s.size) (h : p ((s[k]'hk).toNat : Int) = false) : allB p s = false := by
  cases hb : allB p s with
  | false => rfl
  | true => rw [allB_at hb k hk] at h; cases h
theorem allB_mk {p : Int → Bool} {s : ByteArray} (h : ∀ k (hk : k < s.size), p ((s[k]'hk).toNat : Int) = true) : allB p s = true := by
  unfold allB
  rw [List.all_eq_true]
  intro b hb
  obtain ⟨k, hk⟩ := List.getElem?_of_mem hb
  have hlt : k < s.size := by
    have := (List.getElem?_eq_some_iff.1 hk).1
    simpa [ByteArray.size_data] using this
  rw [data_at s k hlt] at hk
  injection hk with hk
  rw [← hk]
  exact h k hlt

set_option maxRecDepth 100000 in
set_option maxHeartbeats 400000 in
theorem let_any (r : Int) (w : World) :
    Calls Try.prog 76 #[.int .i32 r] w fun e w' => e = .returned (.bool (letN r)) ∧ w = w' := by
  have HL : Hid (letN r = (decide (97 ≤ r) && decide (r ≤ 122))) := rfl
  by_cases h0 : 97 ≤ r
  · by_cases h1 : r ≤ 122
    · go_enter Try.func76, Try.ntmps76
      go_wp2
      go_ret
      exact ⟨retB (by rw [HL.out]; simp [h0, h1]), rfl⟩
    · go_enter Try.func76, Try.ntmps76
      go_wp2
      go_ret
      exact ⟨retB (by rw [HL.out]; simp [h0, h1]), rfl⟩
  · go_enter Try.func76, Try.ntmps76
    go_wp2
    go_ret
    exact ⟨retB (by rw [HL.out]; simp; omega), rfl⟩
theorem let_is (r : Int) (b : Bool) (w : World) (h : b = letN r) :
    Calls Try.prog 76 #[.int .i32 r] w fun e w' => e = .returned (.bool b) ∧ w = w' := by subst h; exact let_any r w
set_option maxRecDepth 100000 in
set_option maxHeartbeats 800000 in
theorem val_any (r : Int) (w : World) :
    Calls Try.prog 77 #[.int .i32 r] w fun e w' => e = .returned (.bool (valN r)) ∧ w = w' := by
  have HL : Hid (valN r = (letN r || (decide (48 ≤ r) && decide (r ≤ 57)) || decide (r = 45))) := rfl
  cases hb : letN r with
  | true =>
    have HT := fun w => let_is r true w hb.symm
    have HY : Hid (valN r = true) := by show _ = _; rw [HL.out, hb]; simp
    clear hb HL
    go_enter Try.func77, Try.ntmps77
    go_wp2_with (go_at_call 76; refine (HT _).mono ?_; rintro e w' ⟨rfl, rfl⟩)
    go_ret
    exact ⟨retB HY.out.symm, rfl⟩
  | false =>
    have HT := fun w => let_is r false w hb.symm
    by_cases h0 : 48 ≤ r
    · by_cases h1 : r ≤ 57
      · have HY : Hid (valN r = true) := by show _ = _; rw [HL.out, hb]; simp [h0, h1]
        clear hb HL
        go_enter Try.func77, Try.ntmps77
        go_wp2_with (go_at_call 76; refine (HT _).mono ?_; rintro e w' ⟨rfl, rfl⟩)
        go_ret
        exact ⟨retB HY.out.symm, rfl⟩
      · have HY : Hid (valN r = false) := by show _ = _; rw [HL.out, hb]; simp; omega
        have h45 : (r == 45) = false := by simp; omega
        clear hb HL
        go_enter Try.func77, Try.ntmps77
        go_wp2_with (go_at_call 76; refine (HT _).mono ?_; rintro e w' ⟨rfl, rfl⟩)
        go_ret
        exact ⟨retB (by rw [HY.out]; simp; omega), rfl⟩
    · by_cases h45 : r = 45
      · have HY : Hid (valN r = true) := by show _ = _; rw [HL.out, hb]; simp [h45]
        subst h45
        clear hb HL h0
        go_enter Try.func77, Try.ntmps77
        go_wp2_with (go_at_call 76; refine (HT _).mono ?_; rintro e w' ⟨rfl, rfl⟩)
        go_ret
        exact ⟨retB HY.out.symm, rfl⟩
      · have HY : Hid (valN r = false) := by show _ = _; rw [HL.out, hb]; simp [h0, h45]
        have h45' : (r == 45) = false := by simp [h45]
        clear hb HL
        go_enter Try.func77, Try.ntmps77
        go_wp2_with (go_at_call 76; refine (HT _).mono ?_; rintro e w' ⟨rfl, rfl⟩)
        go_ret
        exact ⟨retB (by rw [HY.out]; try simpa using h45'), rfl⟩
theorem val_is (r : Int) (b : Bool) (w : World) (h : b = valN r) :
    Calls Try.prog 77 #[.int .i32 r] w fun e w' => e = .returned (.bool b) ∧ w = w' := by subst h; exact val_any r w

/-- what is told of a rune by p -/
def Tells (g : Nat) (p : Int → Bool) : Prop := ∀ (r : Int) (b : Bool) (w : World), b = p r → Calls Try.prog g #[.int .i32 r] w fun e w' => e = .returned (.bool b) ∧ w = w'
set_option maxRecDepth 100000 in
set_option maxHeartbeats 1600000 in
theorem short_any (g : Nat) (p : Int → Bool) (hp : Tells g p) (hh : ∀ r : Int, 128 ≤ r → p r = false) (eg : ∀ args w, (callFunc g args).run Try.prog w = .ok (.enter g args) w) (s : ByteArray) (w : World) :
    Calls Try.prog 75 #[.string s, .func (.func g) #[] #[]] w fun e w' => e = .returned (.bool (shortB p s)) ∧ Below w.heap.size w w' := by
  have HS : Hid (shortB p s = (decide (s.size ≤ 8) && allB p s)) := rfl
  by_cases h8 : s.size ≤ 8
  · go_enter Try.func75, Try.ntmps75
    go_wp2_with fail
    go_loopw [] (fun wr => ∃ pos : Nat, wr.heap[w.heap.size]? = some (.stringIter s pos) ∧ Below w.heap.size w wr ∧ Hid (∀ k (hk : k < s.size), k < pos → p ((s[k]'hk).toNat : Int) = true)) (fun wr => s.size - wr.iterPos w.heap.size)
    case atStart =>
      refine ⟨0, ?_, (Below.refl _ w).alloc (Nat.le_refl _) _, fun k hk h => absurd h (by omega)⟩
      simpa using World.iter_heap w s 0
    case round =>
      obtain ⟨pos, hit, hB, HA⟩ := hrel
      have hsz : w.heap.size < wr.heap.size := (Array.getElem?_eq_some_iff.1 hit).1
      by_cases hlt : pos < s.size
      · by_cases ha : (s[pos]'hlt).toNat < 128
        · have hnx : ∀ ty, (Instr.next (.pointer (some ⟨w.heap.size, 0, none⟩)) true ty).run Try.prog wr = _ := fun ty => Lib.run_next_ascii_at wr w.heap.size s pos ty hit hlt ha
          have hit2 := Lib.iterAt_heap wr w.heap.size s pos (pos + 1) hit
          have hB2 := Lib.below_iterAt hB (k := w.heap.size) (Nat.le_refl _) s (pos + 1)
          have HX := Lib.hid hB2
          cases hb : p ((s[pos]'hlt).toNat : Int) with
          | true =>
            have HT := fun w => hp _ true w hb.symm
            have HN : Hid (∀ k (hk : k < s.size), k < pos + 1 → p ((s[k]'hk).toNat : Int) = true) := fun k hk h => by
              by_cases e : k = pos
              · subst e; exact hb
              · exact HA.out k hk (by omega)
            clear hb hB2 HA HS hp
            generalize (s[pos]'hlt).toNat = c at *
            go_wp2_with fail
            generalize wr.iterAt w.heap.size s (pos + 1) = w1 at *
            refine (HT _).mono ?_
            rintro e w' ⟨rfl, rfl⟩
            go_wp2_with fail
            go_roundw
            case rel => exact ⟨pos + 1, hit2, HX.out, HN⟩
            case measure => simp only [World.iterPos, hit2, hit]; omega
          | false =>
            have HT := fun w => hp _ false w hb.symm
            have HN : Hid (shortB p s = false) := by show _ = _; rw [HS.out, allB_not pos hlt hb]; simp
            clear hb hB2 HA HS hp
            generalize (s[pos]'hlt).toNat = c at *
            go_wp2_with fail
            generalize wr.iterAt w.heap.size s (pos + 1) = w1 at *
            refine (HT _).mono ?_
            rintro e w' ⟨rfl, rfl⟩
            go_wp2_with fail
            go_ret
            exact ⟨retB HN.out.symm, HX.out⟩
        · have hnx : ∀ ty, (Instr.next (.pointer (some ⟨w.heap.size, 0, none⟩)) true ty).run Try.prog wr = _ := fun ty => Lib.run_next_any_at wr w.heap.size s pos ty hit hlt
          have hd := (decode_high s pos hlt (by omega)).1
          have hB2 := Lib.below_iterAt hB (k := w.heap.size) (Nat.le_refl _) s (pos + (Utf8.decode s pos).2)
          have HX := Lib.hid hB2
          have HT := fun w => hp _ false w (hh ((Utf8.decode s pos).1 : Int) (by omega)).symm
          have HN : Hid (shortB p s = false) := by show _ = _; rw [HS.out, allB_not pos hlt (hh _ (by omega))]; simp
          clear hB2 HA HS hp hd
          generalize (Utf8.decode s pos) = c at *
          go_wp2_with fail
          generalize wr.iterAt w.heap.size s (pos + c.2) = w1 at *
          refine (HT _).mono ?_
          rintro e w' ⟨rfl, rfl⟩
          go_wp2_with fail
          go_ret
          exact ⟨retB HN.out.symm, HX.out⟩
      · have hnx : ∀ ty, (Instr.next (.pointer (some ⟨w.heap.size, 0, none⟩)) true ty).run Try.prog wr = _ := fun ty => Lib.run_next_end_at wr w.heap.size s pos ty hit hlt
        have HN : Hid (shortB p s = true) := by
          show _ = _
          rw [HS.out, allB_mk (fun k hk => HA.out k hk (by omega))]
          simpa using h8
        clear HA HS hp
        go_wp2_with fail
        go_ret
        exact ⟨retB HN.out.symm, hB⟩
  · go_enter Try.func75, Try.ntmps75
    go_wp2_with fail
    go_ret
    exact ⟨retB (by rw [HS.out]; simp [h8]), Below.refl _ _⟩
theorem enter_let : ∀ args w, (callFunc 76 args).run Try.prog w = .ok (.enter 76 args) w := enters_of Try.func76 (by kernel_rfl) rfl
theorem enter_val : ∀ args w, (callFunc 77 args).run Try.prog w = .ok (.enter 77 args) w := enters_of Try.func77 (by kernel_rfl) rfl
set_option maxRecDepth 100000 in
set_option maxHeartbeats 800000 in
theorem value_any (s : ByteArray) (w : World) :
    Calls Try.prog 71 #[.string s] w fun e w' => e = .returned (.bool (valueB s)) ∧ Below w.heap.size w w' := by
  have HT := fun w => short_any _ valN val_is valN_high enter_val s w
  have HV : Hid (valueB s = shortB valN s) := rfl
  generalize shortB valN s = b at *
  go_enter Try.func71, Try.ntmps71
  go_wp2_with fail
  refine (HT _).mono ?_
  rintro e w' ⟨rfl, B⟩
  go_wp2_with fail
  go_ret
  exact ⟨retB HV.out.symm, B⟩
set_option maxRecDepth 100000 in
set_option maxHeartbeats 800000 in
theorem name_any (s : ByteArray) (w : World) :
    Calls Try.prog 70 #[.string s] w fun e w' => e = .returned (.bool (nameB s)) ∧ Below w.heap.size w w' := by
  have HT := fun w => short_any _ letN let_is letN_high enter_let s w
  have HV : Hid (nameB s = (decide (0 < s.size) && shortB letN s)) := rfl
  generalize shortB letN s = b at *
  by_cases h0 : s = ByteArray.empty
  · subst h0
    have HV2 : Hid (nameB ByteArray.empty = false) := by show _ = _; rw [HV.out]; simp
    go_enter Try.func70, Try.ntmps70
    go_wp2_with fail
    go_ret
    exact ⟨retB HV2.out.symm, Below.refl _ _⟩
  · have h0' : s.toList ≠ [] := fun h => h0 (by rw [ByteArray.toList_eq] at h; exact ByteArray.ext (Array.toList_inj.1 h))
    have h1 : (s.toList == []) = false := by simpa using h0'
    have HV2 : Hid (nameB s = b) := by
      show _ = _
      rw [HV.out]
      have : 0 < s.size := by
        rcases Nat.eq_zero_or_pos s.size with h | h
        · exact absurd (ByteArray.size_eq_zero_iff.1 h) h0
        · exact h
      simp [this]
    go_enter Try.func70, Try.ntmps70
    go_wp2_with fail
    refine (HT _).mono ?_
    rintro e w' ⟨rfl, B⟩
    go_wp2_with fail
    go_ret
    exact ⟨retB HV2.out.symm, B⟩
end Go.Proofs.Ytopjiokbmpghjaa
