/-
  Labels: the order of two by their names.
-/
import Derived.Test.YtopjiokbmpghjaaLabM
import Derived.Sort.Grow
import Derived.BigQuiet
import Derived.Lib.Bytealg
namespace Go.Proofs.Ytopjiokbmpghjaa
open Go.RowKit Go.Shelf Go.Lib Go.Sort
set_option linter.unusedVariables false

theorem bl_irrefl : ∀ a : List UInt8, Op.bytesLess a a = false
  | [] => rfl
  | x :: a => by
    rw [Op.bytesLess, bl_irrefl a]
    simp
theorem bl_trans : ∀ a b c : List UInt8, Op.bytesLess a b = true → Op.bytesLess b c = true → Op.bytesLess a c = true
  | [], [], _, h, _ => by simp [Op.bytesLess] at h
  | _ :: _, [], _, h, _ => by simp [Op.bytesLess] at h
  | _, _ :: _, [], _, h => by simp [Op.bytesLess] at h
  | [], _ :: _, _ :: _, _, _ => by simp [Op.bytesLess]
  | x :: a, y :: b, z :: c, h1, h2 => by
    have ih := bl_trans a b c
    simp only [Op.bytesLess, Bool.or_eq_true, Bool.and_eq_true, decide_eq_true_eq, beq_iff_eq] at h1 h2 ⊢
    simp only [UInt8.lt_iff_toNat_lt] at *
    rcases h1 with h1 | ⟨rfl, h1⟩
    · rcases h2 with h2 | ⟨rfl, h2⟩
      · exact .inl (Nat.lt_trans h1 h2)
      · exact .inl h1
    · rcases h2 with h2 | ⟨rfl, h2⟩
      · exact .inl h2
      · exact .inr ⟨rfl, ih h1 h2⟩
theorem bl_total : ∀ a b : List UInt8, Op.bytesLess a b = false → Op.bytesLess b a = false → a = b
  | [], [], _, _ => rfl
  | [], _ :: _, h, _ => by simp [Op.bytesLess] at h
  | _ :: _, [], _, h => by simp [Op.bytesLess] at h
  | x :: a, y :: b, h1, h2 => by
    have ih := bl_total a b
    simp only [Op.bytesLess, Bool.or_eq_false_iff, Bool.and_eq_false_iff, decide_eq_false_iff_not] at h1 h2
    simp only [UInt8.lt_iff_toNat_lt] at *
    have e : x = y := UInt8.toNat_inj.1 (by omega)
    subst e
    rw [ih (by simpa using h1.2) (by simpa using h2.2)]
theorem cmp_bl : ∀ a b : List UInt8, compareBytes a b = if Op.bytesLess a b = true then -1 else if Op.bytesLess b a = true then 1 else 0
  | [], [] => by simp [compareBytes, Op.bytesLess]
  | [], _ :: _ => by simp [compareBytes, Op.bytesLess]
  | _ :: _, [] => by simp [compareBytes, Op.bytesLess]
  | x :: a, y :: b => by
    rw [compareBytes, cmp_bl a b]
    simp only [Op.bytesLess]
    by_cases h1 : x < y
    · simp [h1]
    · by_cases h2 : y < x
      · have hne : (x == y) = false := by
          simp only [beq_eq_false_iff_ne]
          rintro rfl
          exact h1 h2
        simp [h1, h2, hne]
      · have e : x = y := by
          simp only [UInt8.lt_iff_toNat_lt] at h1 h2
          exact UInt8.toNat_inj.1 (by omega)
        subst e
        simp [h1]

/-- a text is less than another one -/
def ltS (a b : ByteArray) : Bool := Op.bytesLess a.toList b.toList
theorem ltS_irrefl (a : ByteArray) : ltS a a = false := bl_irrefl _
theorem ltS_trans {a b c : ByteArray} (h1 : ltS a b = true) (h2 : ltS b c = true) : ltS a c = true := bl_trans _ _ _ h1 h2
theorem toList_inj {a b : ByteArray} (h : a.toList = b.toList) : a = b := by
  rw [ByteArray.toList_eq, ByteArray.toList_eq] at h
  exact ByteArray.ext (Array.toList_inj.1 h)
theorem ltS_total {a b : ByteArray} (h1 : ltS a b = false) (h2 : ltS b a = false) : a = b := toList_inj (bl_total _ _ h1 h2)
theorem ltS_asymm {a b : ByteArray} (h : ltS a b = true) : ltS b a = false := by
  cases h2 : ltS b a with
  | false => rfl
  | true => exact absurd (ltS_trans h h2) (by rw [ltS_irrefl]; simp)

/-- -1, 0 or 1 -/
def cmpS (a b : ByteArray) : Int := compareBytes a.data.toList b.data.toList
theorem cmpS_is (a b : ByteArray) : cmpS a b = if ltS a b = true then -1 else if ltS b a = true then 1 else 0 := by
  unfold cmpS ltS
  rw [cmp_bl, ByteArray.toList_eq, ByteArray.toList_eq]
theorem cmpS_ge (a b : ByteArray) : decide (0 ≤ cmpS a b) = !ltS a b := by
  rw [cmpS_is]
  cases h : ltS a b with
  | true => simp
  | false => cases h2 : ltS b a <;> simp
def cmpN (a b : L2) : Int := cmpS a.1 b.1
/-- a label as cells -/
def encL (x : L2) : List Value := [.string x.1, .string x.2]

set_option maxRecDepth 100000 in
set_option maxHeartbeats 800000 in
theorem cmpstr_any (a b : ByteArray) (w : World) :
    Calls Try.prog 78 #[.string a, .string b] w fun e w' => e = .returned (.int .i64 (cmpS a b)) ∧ w' = w := by
  go_enter Try.func78, Try.ntmps78
  go_wp2_with fail
  rw [run_callFunc_extern Try.func81 (by kernel_rfl) (by kernel_rfl) (by kernel_rfl) (e := Extern.BytealgCompare.compare) (by kernel_rfl), Lib.run_compareString]
  simp only [Result.andThen]
  rw [Oper.upon_value]
  go_wp2
  go_ret
  exact ⟨rfl, rfl⟩
set_option maxRecDepth 100000 in
set_option maxHeartbeats 800000 in
theorem compare_any (a b : ByteArray) (w : World) :
    Calls Try.prog 72 #[.string a, .string b] w fun e w' => e = .returned (.int .i64 (cmpS a b)) ∧ w' = w := by
  have HT := fun w => cmpstr_any a b w
  generalize cmpS a b = r at *
  go_enter Try.func72, Try.ntmps72
  go_wp2_with fail
  refine (HT _).mono ?_
  rintro e w' ⟨rfl, rfl⟩
  go_wp2_with fail
  go_ret
  exact ⟨rfl, rfl⟩
set_option maxRecDepth 100000 in
set_option maxHeartbeats 1600000 in
theorem byName_any (a b : L2) (W : World) :
    Calls Try.prog 60 #[aggL a, aggL b] W fun e w' => e = .returned (.int .i64 (cmpN a b)) ∧ ∃ q os', w' = grow (W.drewN q) os' := by
  obtain ⟨s, t⟩ := a
  obtain ⟨u, v⟩ := b
  have HT := fun w => compare_any s u w
  have HC : Hid (cmpS s u = cmpN (s, t) (u, v)) := rfl
  generalize cmpS s u = r at *
  dsimp only [aggL]
  go_enter Try.func60, Try.ntmps60
  go_wp2_with fail
  refine (HT _).mono ?_
  rintro e w' ⟨rfl, rfl⟩
  go_wp2_with fail
  go_ret
  refine ⟨retI HC.out, 0, #[.cells #[.string s, .string t] 57] ++ #[.cells #[.string u, .string v] 57], ?_⟩
  rw [alloc_eq_grow, alloc_eq_grow]
  show grow (grow (W.drewN 0) _) _ = _
  rw [grow_grow]
theorem byName_is (a b : L2) (W : World) :
    Calls Try.prog 60 #[aggL a, aggL b] W fun e w' => e = .returned (.int .i64 (cmpN a b)) ∧ Below W.heap.size W w' := by
  obtain ⟨s, t⟩ := a
  obtain ⟨u, v⟩ := b
  have HT := fun w => compare_any s u w
  have HC : Hid (cmpS s u = cmpN (s, t) (u, v)) := rfl
  generalize cmpS s u = r at *
  dsimp only [aggL]
  go_enter Try.func60, Try.ntmps60
  go_wp2_with fail
  refine (HT _).mono ?_
  rintro e w' ⟨rfl, rfl⟩
  go_wp2_with fail
  go_ret
  exact ⟨retI HC.out, ((Below.refl _ W).alloc (Nat.le_refl _) _).alloc (by simp) _⟩
theorem enter_byName : ∀ args w, (callFunc 60 args).run Try.prog w = .ok (.enter 60 args) w := enters_of Try.func60 (by kernel_rfl) rfl
end Go.Proofs.Ytopjiokbmpghjaa
