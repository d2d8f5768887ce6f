/-
  The walk of CrcTurns: texts of one length that differ in four bytes side by side, or fewer, have unlike sums.
-/
import Derived.Test.YtnbilfknplflcaaMore
import Derived.Laws.IdiomStrings
import Derived.Laws.Rows
import Derived.WalkLawsBesides
namespace Go.Proofs.Ytnbilfknplflcaa.crcTurns
open Go.RowKit Math
set_option linter.unusedVariables false

/-- a row of bytes that may be written -/
def Row (w : World) (B L : Nat) (xs : List Nat) : Prop := xs.length = L ∧ (∀ b ∈ xs, b < 256) ∧ ∀ j, j < L → w.cell? ⟨B, j, none⟩ = some (.int .u8 ((xs.getD j 0 : Nat) : Int)) ∧ w.frozen? ⟨B, j, none⟩ = false

theorem i0 (x0 x1 x2 x3 : Int) (w : World) : (Instr.index 29 (.agg #[.int .u8 x0, .int .u8 x1, .int .u8 x2, .int .u8 x3]) (.int .i64 0)).run Try.prog w = .ok (.int .u8 x0) w := by kernel_rfl
theorem i1 (x0 x1 x2 x3 : Int) (w : World) : (Instr.index 29 (.agg #[.int .u8 x0, .int .u8 x1, .int .u8 x2, .int .u8 x3]) (.int .i64 1)).run Try.prog w = .ok (.int .u8 x1) w := by kernel_rfl
theorem i2 (x0 x1 x2 x3 : Int) (w : World) : (Instr.index 29 (.agg #[.int .u8 x0, .int .u8 x1, .int .u8 x2, .int .u8 x3]) (.int .i64 2)).run Try.prog w = .ok (.int .u8 x2) w := by kernel_rfl
theorem i3 (x0 x1 x2 x3 : Int) (w : World) : (Instr.index 29 (.agg #[.int .u8 x0, .int .u8 x1, .int .u8 x2, .int .u8 x3]) (.int .i64 3)).run Try.prog w = .ok (.int .u8 x3) w := by kernel_rfl
theorem idx (x0 x1 x2 x3 : Nat) (k : Nat) (hk : k < 4) (w : World) :
    (Instr.index 29 (.agg #[.int .u8 x0, .int .u8 x1, .int .u8 x2, .int .u8 x3]) (.int .i64 k)).run Try.prog w = .ok (.int .u8 (([x0, x1, x2, x3].getD k 0 : Nat) : Int)) w := by
  rcases (by omega : k = 0 ∨ k = 1 ∨ k = 2 ∨ k = 3) with rfl | rfl | rfl | rfl
  · exact i0 _ _ _ _ w
  · exact i1 _ _ _ _ w
  · exact i2 _ _ _ _ w
  · exact i3 _ _ _ _ w

theorem tw_take (l : List Nat) : ∀ bs, tw l (bs.take l.length) = tw l bs := by
  induction l with
  | nil => intro bs; simp [tw]
  | cons x l ih => intro bs; cases bs with
    | nil => simp
    | cons b bs => simp [tw, ih]
theorem tw_nil (l : List Nat) : tw l [] = l := by cases l <;> rfl
/-- one byte more -/
theorem tw_snoc (l : List Nat) : ∀ (bs : List Nat) (b : Nat), bs.length < l.length → tw l (bs ++ [b]) = (tw l bs).set bs.length ((tw l bs).getD bs.length 0 ^^^ b) := by
  induction l with
  | nil => intro bs b h; simp at h
  | cons x l ih => intro bs b h; cases bs with
    | nil => simp [tw, tw_nil]
    | cons c bs =>
      have := ih bs b (by simpa using h)
      simp [tw, this]
/-- the text behind k rounds -/
def cur (l : List Nat) (p : Nat) (bs : List Nat) (k : Nat) : List Nat := l.take p ++ tw (l.drop p) (bs.take k)
def allZ (L p : Nat) (bs : List Nat) (k : Nat) : Bool := ((bs.take k).take (L - p)).all (· == 0)
theorem allZ_zero (L p : Nat) (bs : List Nat) : allZ L p bs 0 = true := by unfold allZ; simp
theorem bool_eq {a b : Bool} (h : a = b) : Value.bool a = .bool b := by rw [h]
theorem cur_zero (l : List Nat) (p : Nat) (bs : List Nat) : cur l p bs 0 = l := by
  unfold cur; rw [List.take_zero, tw_nil, List.take_append_drop]
theorem cur_length (l : List Nat) (p : Nat) (bs : List Nat) (k : Nat) : (cur l p bs k).length = l.length := by
  unfold cur; rw [List.length_append, tw_length, ← List.length_append, List.take_append_drop]
theorem cur_in (l : List Nat) (p : Nat) (bs : List Nat) (k : Nat) (hp : p < l.length) (hk : k < bs.length) (h : p + k < l.length) :
    cur l p bs (k + 1) = (cur l p bs k).set (p + k) ((cur l p bs k).getD (p + k) 0 ^^^ bs.getD k 0) := by
  have e : bs.take (k + 1) = bs.take k ++ [bs.getD k 0] := by
    rw [List.take_succ_eq_append_getElem hk]
    simp [List.getD, List.getElem?_eq_getElem hk]
  have hkl : (bs.take k).length = k := by rw [List.length_take]; omega
  have hpl : (l.take p).length = p := by rw [List.length_take]; omega
  have := tw_snoc (l.drop p) (bs.take k) (bs.getD k 0) (by rw [hkl, List.length_drop]; omega)
  rw [hkl] at this
  unfold cur
  rw [e, this, List.set_append_right _ _ (by omega), hpl, show p + k - p = k by omega]
  have e2 : (l.take p ++ tw (l.drop p) (bs.take k)).getD (p + k) 0 = (tw (l.drop p) (bs.take k)).getD k 0 := by
    rw [List.getD_eq_getElem?_getD, List.getElem?_append_right (by omega), hpl, show p + k - p = k by omega, List.getD_eq_getElem?_getD]
  rw [e2]
theorem cur_out (l : List Nat) (p : Nat) (bs : List Nat) (k : Nat) (h : l.length ≤ p + k) : cur l p bs (k + 1) = cur l p bs k := by
  unfold cur
  rw [← tw_take (l.drop p) (bs.take (k + 1)), ← tw_take (l.drop p) (bs.take k), List.take_take, List.take_take, List.length_drop]
  rw [show min (l.length - p) (k + 1) = l.length - p by omega, show min (l.length - p) k = l.length - p by omega]
theorem allZ_in (L p : Nat) (bs : List Nat) (k : Nat) (hk : k < bs.length) (h : p + k < L) : allZ L p bs (k + 1) = (allZ L p bs k && (bs.getD k 0 == 0)) := by
  have e : bs.take (k + 1) = bs.take k ++ [bs.getD k 0] := by
    rw [List.take_succ_eq_append_getElem hk]
    simp [List.getD, List.getElem?_eq_getElem hk]
  unfold allZ
  rw [List.take_of_length_le (l := bs.take (k + 1)) (by rw [List.length_take]; omega), List.take_of_length_le (l := bs.take k) (by rw [List.length_take]; omega), e, List.all_append]
  simp
theorem allZ_out (L p : Nat) (bs : List Nat) (k : Nat) (h : L ≤ p + k) : allZ L p bs (k + 1) = allZ L p bs k := by
  unfold allZ
  rw [List.take_take, List.take_take, show min (L - p) (k + 1) = L - p by omega, show min (L - p) k = L - p by omega]
theorem set_lt {xs : List Nat} (h : ∀ b ∈ xs, b < 256) (j : Nat) {v : Nat} (hv : v < 256) : ∀ b ∈ xs.set j v, b < 256 := by
  intro b hb
  rcases List.mem_or_eq_of_mem_set hb with hb | rfl
  · exact h b hb
  · exact hv
theorem getD_lt {xs : List Nat} (h : ∀ b ∈ xs, b < 256) (j : Nat) : xs.getD j 0 < 256 := by
  rw [List.getD_eq_getElem?_getD]
  cases e : xs[j]? with
  | none => simp
  | some v => exact h v (List.mem_of_getElem? e)
theorem xor8_lt {a b : Nat} (ha : a < 256) (hb : b < 256) : a ^^^ b < 256 := by
  have := Nat.xor_lt_two_pow (n := 8) (x := a) (y := b) (by omega) (by omega)
  omega
theorem Row.set {w : World} {B L : Nat} {xs : List Nat} (h : Row w B L xs) (j : Nat) (hj : j < L) {x : Int} (v : Nat) (hx : x = v) (hv : v < 256) : Row (w.setCell ⟨B, j, none⟩ (.int .u8 x)) B L (xs.set j v) := by
  subst hx
  obtain ⟨h1, h2, h3⟩ := h
  refine ⟨by rw [List.length_set]; exact h1, set_lt h2 j hv, fun i hi => ⟨?_, by rw [World.frozen?_setCell]; exact (h3 i hi).2⟩⟩
  by_cases e : i = j
  · subst e
    rw [World.cell?_setCell_same' _ _ _ (by rw [(h3 i hi).1]; rfl)]
    simp [List.getD_eq_getElem?_getD, h1, hi]
  · rw [World.cell?_setCell_other _ _ _ _ (by simp only [ne_eq, Addr.mk.injEq, true_and, and_true]; omega), (h3 i hi).1]
    simp [List.getD_eq_getElem?_getD, Ne.symm e]
theorem Row.below {w w' : World} {B L : Nat} {xs : List Nat} (h : Row w B L xs) {C : Nat} (hB : Below C w w') (hC : B < C) : Row w' B L xs :=
  ⟨h.1, h.2.1, fun j hj => ⟨(hB.cell (p := ⟨B, j, none⟩) hC).trans (h.2.2 j hj).1, (hB.frozen (p := ⟨B, j, none⟩) hC).trans (h.2.2 j hj).2⟩⟩
theorem start (v : World) (s : ByteArray) (c B : Nat) (hB : B = v.heap.size) :
    Row ((v.alloc (.cells (bytesRow s c) 5 ((bytesRow s c).size, (bytesRow s c).size + 1))).drew) B s.size (bl s) := by
  subst hB
  refine ⟨bl_length s, bl_lt s, fun j hj => ?_⟩
  have hb : (v.alloc (.cells (bytesRow s c) 5 ((bytesRow s c).size, (bytesRow s c).size + 1))).heap[v.heap.size]? = some (.cells (bytesRow s c) 5 ((bytesRow s c).size, (bytesRow s c).size + 1)) := (MapKept.heap_alloc v _).1
  have hj' : j < s.data.size := hj
  have hsz : j < (bytesRow s c).size := by unfold bytesRow; simp; omega
  constructor
  · rw [World.cell?_drew]
    unfold World.cell?
    rw [hb]
    show (bytesRow s c)[j]? = _
    rw [bytesRow_at s c j hj']
    unfold bl
    simp [List.getD_eq_getElem?_getD]
    rw [Array.getElem?_eq_getElem hj']
    rfl
  · show World.frozen? (v.alloc _) _ = false
    rw [World.frozen?_alloc_mark]
    simp
    omega
theorem tmod_bd (a : Int) (L : Nat) (h : 0 < L) : -(L : Int) < a.tmod L ∧ a.tmod L < (L : Int) := by
  have h1 := Int.tmod_lt_of_pos a (b := (L : Int)) (by omega)
  have h2 := Int.lt_tmod_of_pos a (b := (L : Int)) (by omega)
  omega
theorem bl_str (xs : List Nat) (h : ∀ b ∈ xs, b < 256) : bl (strOfNums (xs.map fun (n : Nat) => (n : Int))) = xs := by
  unfold bl
  rw [strOfNums_data, List.map_map, List.map_map]
  induction xs with
  | nil => rfl
  | cons x xs ih =>
    rw [List.map_cons, ih (fun b hb => h b (by simp [hb]))]
    have := h x (by simp)
    simp only [Function.comp, Int.toNat_natCast, UInt8.toNat_ofNat']
    rw [Nat.mod_eq_of_lt this]
/-- what the law says, on numbers -/
theorem says (s : ByteArray) (p : Nat) (bs : List Nat) (hb : ∀ b ∈ bs, b < 256) (h4 : bs.length = 4) : (moreN 0 (cur (bl s) p bs 4) = moreN 0 (bl s)) ↔ allZ s.size p bs 4 = true := by
  have ht := turns (not32 (low32 0)) ((bl s).take p) ((bl s).drop p) bs hb (by omega)
  rw [List.take_append_drop, List.length_drop, bl_length] at ht
  unfold moreN cur allZ
  rw [List.take_of_length_le (l := bs) (by omega), List.all_eq_true]
  constructor
  · intro h
    have := ht.1 (not32_inj h)
    intro b hb
    simp [this b hb]
  · intro h
    rw [ht.2 (fun b hb => by simpa using h b hb)]

set_option maxHeartbeats 1600000 in
set_option maxRecDepth 100000 in
theorem full (a0 : ByteArray) (a1 : Int) (x0 x1 x2 x3 : Nat) (hx : ∀ b ∈ [x0, x1, x2, x3], b < 256) (w0 : a0.size ≤ maxLen) (hne : 0 < (fewS a0).size) (w : World) :
    Calls Try.prog 5 #[.string a0, .int .i64 a1, .agg #[.int .u8 x0, .int .u8 x1, .int .u8 x2, .int .u8 x3]] w fun e w' => e = .returned (.bool true) ∧ Below w.heap.size w w' := by
  have hz0 := fewS_size a0
  have hcv := fun (w : World) (s : ByteArray) => run_bytes_of_string (P := Try.prog) w 9 30 5 s Try.underlying9 Try.underlying30 Try.underlying5
  obtain ⟨ht1, ht2⟩ := tmod_bd a1 (fewS a0).size hne
  have hl0 : (((fewS a0).size : Int) == 0) = false := by simp only [beq_eq_false_iff_ne, ne_eq]; omega
  have hem : (fewS a0).toList.isEmpty = false := by
    rw [ByteArray.toList_eq, List.isEmpty_eq_false_iff]
    intro h
    have := congrArg List.length h
    simp only [Array.length_toList, List.length_nil] at this
    exact absurd this (by show (fewS a0).size ≠ 0; omega)
  go_enter Try.func5, Try.ntmps5
  go_wp2_with fail
  refine (few_any _ _ w0).mono ?_
  rintro e w' ⟨rfl, rfl⟩
  go_wp2_with fail
  have hq0 : 0 ≤ (a1.tmod (fewS a0).size + ((fewS a0).size : Int)) % ((fewS a0).size : Int) := Int.emod_nonneg _ (by omega)
  have hq1 : (a1.tmod (fewS a0).size + ((fewS a0).size : Int)) % ((fewS a0).size : Int) < (fewS a0).size := Int.emod_lt_of_pos _ (by omega)
  clear hcv hem hl0
  generalize (a1.tmod (fewS a0).size + ((fewS a0).size : Int)) % ((fewS a0).size : Int) = q at *
  generalize (a1.tmod (fewS a0).size + ((fewS a0).size : Int)) = q2 at *
  generalize a1.tmod (fewS a0).size = q3 at *
  obtain ⟨p, rfl⟩ := Int.eq_ofNat_of_zero_le hq0
  clear hq0 ht1 ht2
  have hR := start (w.alloc (.cells #[.int .u8 x0, .int .u8 x1, .int .u8 x2, .int .u8 x3] 29)) (fewS a0) (grownCap (w.alloc (.cells #[.int .u8 x0, .int .u8 x1, .int .u8 x2, .int .u8 x3] 29)) (fewS a0).size 0 5) (w.heap.size + 1) (by simp)
  have hB0 : Below w.heap.size w (((w.alloc (.cells #[.int .u8 x0, .int .u8 x1, .int .u8 x2, .int .u8 x3] 29)).alloc (.cells (bytesRow (fewS a0) (grownCap (w.alloc (.cells #[.int .u8 x0, .int .u8 x1, .int .u8 x2, .int .u8 x3] 29)) (fewS a0).size 0 5)) 5 ((bytesRow (fewS a0) (grownCap (w.alloc (.cells #[.int .u8 x0, .int .u8 x1, .int .u8 x2, .int .u8 x3] 29)) (fewS a0).size 0 5)).size, (bytesRow (fewS a0) (grownCap (w.alloc (.cells #[.int .u8 x0, .int .u8 x1, .int .u8 x2, .int .u8 x3] 29)) (fewS a0).size 0 5)).size + 1))).drew) :=
    (((Below.refl _ w).alloc (Nat.le_refl _) _).alloc (by simp) _).drew
  have hs0 : w.heap.size + 1 < (((w.alloc (.cells #[.int .u8 x0, .int .u8 x1, .int .u8 x2, .int .u8 x3] 29)).alloc (.cells (bytesRow (fewS a0) (grownCap (w.alloc (.cells #[.int .u8 x0, .int .u8 x1, .int .u8 x2, .int .u8 x3] 29)) (fewS a0).size 0 5)) 5 ((bytesRow (fewS a0) (grownCap (w.alloc (.cells #[.int .u8 x0, .int .u8 x1, .int .u8 x2, .int .u8 x3] 29)) (fewS a0).size 0 5)).size, (bytesRow (fewS a0) (grownCap (w.alloc (.cells #[.int .u8 x0, .int .u8 x1, .int .u8 x2, .int .u8 x3] 29)) (fewS a0).size 0 5)).size + 1))).drew).heap.size := by
    show _ < (World.alloc _ _).heap.size
    simp
  generalize World.drew _ = W at *
  generalize grownCap _ _ _ _ = cp at *
  obtain ⟨bs, hbs⟩ : ∃ bs, bs = [x0, x1, x2, x3] := ⟨_, rfl⟩
  have hb4 : Hid (bs.length = 4) := by subst hbs; rfl
  have hbl : Hid (∀ b ∈ bs, b < 256) := by subst hbs; exact hx
  have hix : Hid (∀ k, k < 4 → ∀ w : World, (Instr.index 29 (.agg #[.int .u8 x0, .int .u8 x1, .int .u8 x2, .int .u8 x3]) (.int .i64 (k : Nat))).run Try.prog w = .ok (.int .u8 ((bs.getD k 0 : Nat) : Int)) w) := by
    subst hbs; exact fun k hk w => idx x0 x1 x2 x3 k hk w
  clear hbs hx
  go_loopw [8, 29] (fun sm i wr => ∃ k : Nat, k ≤ 4 ∧ i = .int .i64 k ∧ sm = .bool (allZ (fewS a0).size p bs k) ∧ Row wr (w.heap.size + 1) (fewS a0).size (cur (bl (fewS a0)) p bs k) ∧ Below w.heap.size w wr ∧ w.heap.size + 1 < wr.heap.size) (fun _ i _ => 4 - (intOf i).toNat)
  case atStart => exact ⟨0, Nat.zero_le _, rfl, bool_eq (allZ_zero _ _ _).symm, by rw [cur_zero]; exact hR, hB0, hs0⟩
  case round =>
    obtain ⟨k, hk, rfl, rfl, hRk, hB, hS⟩ := hrel
    clear hR hB0 hs0
    have hbl' := hbl.out
    by_cases h4 : k < 4
    · have hi := hix.out k h4
      have hbk := getD_lt hbl' k
      have hkb : k < bs.length := by rw [hb4.out]; exact h4
      by_cases hin : p + k < (fewS a0).size
      · have hck := getD_lt hRk.2.1 (p + k)
        have hc := (hRk.2.2 (p + k) hin).1
        have hf := (hRk.2.2 (p + k) hin).2
        have HC := Lib.hid (cur_in (bl (fewS a0)) p bs k (by rw [bl_length]; omega) hkb (by rw [bl_length]; exact hin))
        have HZ := Lib.hid (allZ_in (fewS a0).size p bs k hkb hin)
        have HX := Lib.hid (u8_xor_nat _ _ hck hbk)
        have HR := Lib.hid (hRk.set (p + k) hin _ HX.out (xor8_lt hck hbk))
        rw [← HC.out] at HR
        clear HC HX hbl' hkb
        generalize (cur (bl (fewS a0)) p bs k).getD (p + k) 0 = c at *
        generalize bs.getD k 0 = b at *
        generalize allZ (fewS a0).size p bs k = sm at *
        by_cases hb0 : b = 0
        · have hb0' : ((b : Int) == 0) = true := by simp only [beq_iff_eq]; omega
          have HB := Lib.hid hb0
          clear hb0
          cases sm
          all_goals
            go_wp2
            go_roundw
            case rel => exact ⟨k + 1, by omega, by go_num, bool_eq (by rw [HZ.out, HB.out]; rfl), HR, hB.setCell (by exact Nat.le_succ _) _, by rw [size_setCell]; exact hS⟩
            case measure => simp [intOf]; omega
        · have hb0' : ((b : Int) == 0) = false := by simp only [beq_eq_false_iff_ne, ne_eq]; omega
          have hb1 : (b == 0) = false := by simpa using hb0
          cases sm
          all_goals
            go_wp2
            go_roundw
            case rel => exact ⟨k + 1, by omega, by go_num, bool_eq (by rw [HZ.out, hb1]; rfl), HR, hB.setCell (by exact Nat.le_succ _) _, by rw [size_setCell]; exact hS⟩
            case measure => simp [intOf]; omega
      · have HC := Lib.hid (cur_out (bl (fewS a0)) p bs k (by rw [bl_length]; omega))
        have HZ := Lib.hid (allZ_out (fewS a0).size p bs k (by omega))
        go_wp2
        go_roundw
        case rel => exact ⟨k + 1, by omega, by go_num, bool_eq HZ.out.symm, by rw [HC.out]; exact hRk, hB, hS⟩
        case measure => simp [intOf]; omega
    · obtain rfl : k = 4 := by omega
      have SY := Lib.hid (says (fewS a0) p bs hbl' hb4.out)
      have HL : Hid ((strOfNums ((cur (bl (fewS a0)) p bs 4).map fun (n : Nat) => (n : Int))).size ≤ maxLen) := by
        show _ ≤ _
        rw [strOfNums_size, List.length_map, cur_length, bl_length]
        exact fewS_max a0
      have HM := Lib.hid (fewS_max a0)
      have HS := Lib.hid (bl_str _ hRk.2.1)
      clear hbl'
      go_wp2_with fail
      refine (alive_any _).mono ?_
      rintro e w1 ⟨rfl, B1⟩
      have hR1 := hRk.below B1 hS
      have hcv := run_convert_bytes_arg (P := Try.prog) w1 30 5 Try.underlying30 Try.underlying5 (w.heap.size + 1) 0 (fewS a0).size cp ((cur (bl (fewS a0)) p bs 4).map fun (n : Nat) => (n : Int))
        (by rw [List.length_map, cur_length, bl_length]) (fun i hi => by
          rw [Nat.zero_add, (hR1.2.2 i hi).1]
          simp [List.getD_eq_getElem?_getD, List.getElem?_map]
          cases (cur (bl (fewS a0)) p bs 4)[i]? <;> rfl) 9 Try.underlying9
      go_wp2_with fail
      clear hcv
      refine (sum_any _ _ HL.out).mono ?_
      rintro e w2 ⟨rfl, B2⟩
      rw [HS.out]
      go_wp2_with fail
      refine (sum_any _ _ HM.out).mono ?_
      rintro e w3 ⟨rfl, B3⟩
      have s1 := B1.size
      have s2 := B2.size
      have hs1 := hB.size
      have hBB : Below w.heap.size w w3 := ((hB.trans (B1.mono (by omega))).trans (B2.mono (by omega))).trans (B3.mono (by omega))
      have sy := SY.out
      clear s1 s2 hs1 B1 B2 B3 hR1 hRk SY HS HL HM
      generalize moreN 0 (cur (bl (fewS a0)) p bs 4) = A at *
      generalize moreN 0 (bl (fewS a0)) = C at *
      generalize allZ (fewS a0).size p bs 4 = sm at *
      cases sm
      · have hne : ((A : Int) == (C : Int)) = false := by
          simp only [beq_eq_false_iff_ne, ne_eq]
          intro h
          exact absurd (sy.1 (by omega)) (by simp)
        clear sy
        go_wp2_with fail
        go_ret
        exact ⟨rfl, hBB⟩
      · have he : A = C := sy.2 rfl
        subst he
        clear sy
        go_wp2_with fail
        go_ret
        exact ⟨rfl, hBB⟩

set_option maxHeartbeats 400000 in
theorem empty (a0 : ByteArray) (a1 : Int) (x0 x1 x2 x3 : Nat) (w0 : a0.size ≤ maxLen) (hne : (fewS a0).size = 0) (w : World) :
    Calls Try.prog 5 #[.string a0, .int .i64 a1, .agg #[.int .u8 x0, .int .u8 x1, .int .u8 x2, .int .u8 x3]] w fun e w' => e = .returned (.bool true) ∧ Below w.heap.size w w' := by
  have hem : (fewS a0).toList.isEmpty = true := by
    rw [ByteArray.toList_eq, List.isEmpty_iff]
    exact List.eq_nil_of_length_eq_zero (by rw [Array.length_toList]; exact hne)
  clear hne
  go_enter Try.func5, Try.ntmps5
  go_wp2_with fail
  refine (few_any _ _ w0).mono ?_
  rintro e w' ⟨rfl, rfl⟩
  go_wp2_with fail
  refine (alive_any _).mono ?_
  rintro e w1 ⟨rfl, B1⟩
  go_wp2_with fail
  go_ret
  exact ⟨rfl, ((Below.refl _ w).alloc (Nat.le_refl _) _).trans (B1.mono (by simp))⟩
end Go.Proofs.Ytnbilfknplflcaa.crcTurns
