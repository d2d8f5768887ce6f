/-
  Go's own digits of a number, base 16: an array of 65 bytes, filled from its end.
-/
import Derived.Test.YtkffaimemmgfeaaDoorFinB
import Derived.Laws.BytesArg
import Derived.WalkSpells
namespace Go.Proofs.YtkffaimemmgfeaaDoor
open Go.RowKit Fnv
set_option linter.unusedVariables false

/-- bytes as cells -/
def uCells (l : List UInt8) : List Value := l.map fun x => Value.int .u8 (x.toNat : Int)
theorem uCells_set (l : List UInt8) (k : Nat) (b : UInt8) : (uCells l).set k (.int .u8 (b.toNat : Int)) = uCells (l.set k b) := by unfold uCells; rw [List.map_set]
theorem uCells_at (l : List UInt8) (i : Nat) (hi : i < l.length) : (uCells l)[i]? = some (.int .u8 ((l.getD i 0).toNat : Int)) := by
  unfold uCells
  simp [List.getD_eq_getElem?_getD, hi]
/-- the array's bytes -/
def URow (w : World) (A : Nat) (l : List UInt8) : Prop := w.heap[A]? = some (.cells (uCells l).toArray 80 (0, 0))
theorem URow.cell {w : World} {A : Nat} {l : List UInt8} (h : URow w A l) (i : Nat) (hi : i < l.length) : w.cell? ⟨A, i, none⟩ = some (.int .u8 ((l.getD i 0).toNat : Int)) := by
  rw [cell_of_row w A i _ _ _ h]
  simpa using uCells_at l i hi
theorem URow.free {w : World} {A : Nat} {l : List UInt8} (h : URow w A l) (i : Nat) : w.frozen? ⟨A, i, none⟩ = false := frozen_of_row w _ _ _ _ h
theorem URow.set {w : World} {A : Nat} {l : List UInt8} (h : URow w A l) (i : Nat) {x : Int} (b : UInt8) (hx : x = (b.toNat : Int)) : URow (w.setCell ⟨A, i, none⟩ (.int .u8 x)) A (l.set i b) := by
  subst hx
  unfold URow
  rw [heap_setCell_same _ _ _ _ _ _ h, ← uCells_set]
  simp
def zeroU : Array Value := Array.replicate 65 (.int .u8 0)
theorem repU (n : Nat) : Array.replicate n (Value.int .u8 0) = (uCells (List.replicate n 0)).toArray := by
  unfold uCells
  rw [List.map_replicate]
  simp
theorem zeroU_run (w : World) : (zeroValue 80).run Tryd.prog w = .ok (.agg zeroU) w := by kernel_rfl
theorem URow.fresh (w : World) : URow (w.alloc (.cells zeroU 80)) w.heap.size (List.replicate 65 0) := by
  unfold URow
  rw [show zeroU = (uCells (List.replicate 65 0)).toArray from repU 65]
  exact heap_alloc_new w _
theorem bytesU (l : List UInt8) : strOfNums (l.map fun x => ((x.toNat : Nat) : Int)) = tx l := by
  unfold strOfNums tx
  congr 1
  rw [List.map_map]
  congr 1
  conv => rhs; rw [← List.map_id l]
  apply List.map_congr_left
  intro x _
  simp
theorem stringU (w : World) (A q n cap : Nat) (l : List UInt8) (hg : URow w A l) (hl : l.length = 65) (hq : q + n = 65) :
    (convert 34 9 (.slice (some ⟨A, q, none⟩) n cap)).run Tryd.prog w = .ok (.string (tx (l.drop q))) w := by
  have h := run_convert_bytes_arg (P := Tryd.prog) w 34 5 Tryd.underlying34 Tryd.underlying5 A q n cap ((l.drop q).map fun x => ((x.toNat : Nat) : Int)) (by rw [List.length_map, List.length_drop]; omega) (fun i hi => by
    rw [hg.cell (q + i) (by omega)]
    simp [List.getD_eq_getElem?_getD, List.getElem?_drop]
    rw [List.getElem?_eq_getElem (by omega)]
    simp) 9 Tryd.underlying9
  rw [bytesU] at h
  exact h
theorem lenU : Tryd.prog.arrayLen 80 = 65 := by kernel_rfl
theorem sizeU (w : World) : (sizeOf (Tryd.prog.elem 80)).run Tryd.prog w = .ok 1 w := by kernel_rfl
theorem sliceU (q : Nat) (hq : q < 65) (A : Nat) (w : World) : (Instr.sliceAt 80 (.pointer (some ⟨A, 0, none⟩)) (some (.int .i64 (q : Int))) none none).run Tryd.prog w = .ok (.slice (some ⟨A, q, none⟩) (65 - q) (65 - q)) w := by
  rw [run_sliceAt_array_l (P := Tryd.prog) (w := w) (ht := by kernel_rfl) (h0 := by omega) (h1 := by rw [lenU]; omega), lenU, sizeU]
  simp [slicedAt]
  rw [if_neg (by omega)]
  unfold Addr.add
  split
  · simp_all
  · simp
/-- a store one place ahead of what is done -/
theorem drop_set {l : List UInt8} {q : Nat} (hq : q < l.length) (b : UInt8) : (l.set q b).drop q = b :: l.drop (q + 1) := by
  rw [List.drop_eq_getElem_cons (by simpa using hq), List.drop_set_of_lt (by omega)]
  simp
def smallS : ByteArray := ⟨#[48, 49, 50, 51, 52, 53, 54, 55, 56, 57, 97, 98, 99, 100, 101, 102, 103, 104, 105, 106, 107, 108, 109, 110, 111, 112, 113, 114, 115, 116, 117, 118, 119, 120, 121, 122]⟩

theorem small_all : ∀ d, d < 16 → smallS.data[d]? = some (digB d) := by decide
theorem small_at (d : Nat) (hd : d < 16) (p : d < smallS.size) : smallS[d]'p = digB d := by
  have h := small_all d hd
  obtain ⟨_, h2⟩ := Array.getElem?_eq_some_iff.1 h
  exact h2
theorem small_num (d : Nat) (hd : d < 16) (p : d < smallS.size) : (((smallS[d]'p).toNat : Nat) : Int) = ((digB d).toNat : Int) := by rw [small_at d hd p]

set_option maxRecDepth 100000 in
set_option maxHeartbeats 1600000 in
theorem fmtBits_any (h : Nat) (w : World) (hh : h < M64) (hT : w.cell? ⟨3, 15, none⟩ = some (.int .u8 4)) :
    Calls Tryd.prog 41 #[.slice none 0 0, .int .u64 (h : Int), .int .i64 16, .bool false, .bool false] w fun e w' => (∃ n, 1 ≤ n ∧ n ≤ 16 ∧ h < 16 ^ n ∧ e = .returned (.tuple #[.slice none 0 0, .string (tx (hexK n h))])) ∧ Below w.heap.size w w' := by
  have hz := zeroU_run w
  have hR := URow.fresh w
  have hB0 := (Below.refl w.heap.size w).alloc (Nat.le_refl _) (.cells zeroU 80)
  have hT1 : (w.alloc (.cells zeroU 80)).cell? ⟨3, 15, none⟩ = some (.int .u8 4) := ((Below.refl w.heap.size w).alloc (Nat.le_refl _) (.cells zeroU 80)).cell (World.block_lt_of_cell? _ _ hT) |>.trans hT
  go_enter Tryd.func41, Tryd.ntmps41
  go_wp2_with fail
  refine (pow2_any _).mono ?_
  rintro e w1 ⟨rfl, rfl⟩
  go_wp2_with fail
  refine (tz_any _ hT1).mono ?_
  rintro e w2 ⟨rfl, rfl⟩
  clear hT hT1 hz
  go_wp2_with fail
  go_loopw [1, 13] (fun s1 s13 wr => ∃ (i q : Nat) (l : List UInt8), i ≤ 15 ∧ i + q = 65 ∧ s1 = .int .u64 ((h / 16 ^ i : Nat) : Int) ∧ s13 = .int .i64 (q : Int) ∧ URow wr w.heap.size l ∧ l.length = 65 ∧ Hid (l.drop q = hexK i h) ∧ Below w.heap.size w wr) (fun _ s13 _ => (intOf s13).toNat)
  case atStart => exact ⟨0, 65, List.replicate 65 0, Nat.zero_le _, rfl, by simp, rfl, hR, by simp, rfl, hB0⟩
  case round =>
    obtain ⟨i, q, l, hi, hq, rfl, rfl, hU, hl, HD, hB⟩ := hrel
    clear hR hB0
    obtain ⟨x, hx⟩ : ∃ x, h / 16 ^ i = x := ⟨_, rfl⟩
    have hxl : x < M64 := by rw [← hx]; exact Nat.lt_of_le_of_lt (Nat.div_le_self _ _) hh
    rw [M64_is] at hxl hh
    have hst := hexK_front i h
    rw [hx] at hst ⊢
    obtain ⟨j, rfl⟩ : ∃ j, q = j + 1 := ⟨q - 1, by omega⟩
    have hc := hU.cell j (by omega)
    have hf := hU.free j
    by_cases hge : 16 ≤ x
    · have hi15 : i ≠ 15 := by
        rintro rfl
        omega
      have hnx : h / 16 ^ (i + 1) = x / 16 := by rw [Nat.pow_succ, ← Nat.div_div_eq_div_mul, hx]
      have e1 : bits .and .u64 (x : Int) 15 = ((x % 16 : Nat) : Int) := by
        have := u64_and_nat x 15 hxl (by omega)
        rw [nat_mask4] at this
        exact this
      have HS := Lib.hid hst
      have HX := Lib.hid hnx
      clear hst hnx hx
      go_wp2_with fail
      go_roundw
      case rel =>
        refine ⟨i + 1, j, l.set j (digB (x % 16)), by omega, by omega, by rw [HX.out]; push_cast; rfl, by go_num, hU.set j _ (small_num (x % 16) (Nat.mod_lt _ (by omega)) _), by rw [List.length_set]; exact hl, ?_, hB.setCell (p := ⟨w.heap.size, j, none⟩) (Nat.le_refl _) _⟩
        show _ = _
        rw [drop_set (by omega), HD.out, HS.out]
      case measure => simp [intOf]
    · have hn : h < 16 ^ (i + 1) := by
        rw [Nat.pow_succ]
        have := Nat.lt_mul_div_succ h (show 0 < 16 ^ i from Nat.pow_pos (by omega))
        rw [hx] at this
        refine Nat.lt_of_lt_of_le this ?_
        exact Nat.mul_le_mul_left _ (by omega)
      have e0 : x % 16 = x := by omega
      rw [e0] at hst
      have HS := Lib.hid hst
      have HN := Lib.hid hn
      have hsl := sliceU j (by omega) w.heap.size
      have hU1 : URow (wr.setCell ⟨w.heap.size, j, none⟩ (.int .u8 ((digB x).toNat : Int))) w.heap.size (l.set j (digB x)) := hU.set j _ rfl
      have hstr := fun cap => stringU _ w.heap.size j (65 - j) cap _ hU1 (by rw [List.length_set]; exact hl) (by omega)
      have hsm := fun p => small_num x (by omega) p
      unfold smallS at hsm
      clear hst hn hx
      go_wp2_with fail
      have HT : tx ((l.set j (digB x)).drop j) = tx (hexK (i + 1) h) := by rw [drop_set (by omega), HD.out, HS.out]
      rw [HT]
      go_ret2
      exact ⟨⟨i + 1, by omega, by omega, HN.out, rfl⟩, hB.setCell (p := ⟨w.heap.size, j, none⟩) (Nat.le_refl _) _⟩
set_option maxRecDepth 100000 in
set_option maxHeartbeats 800000 in
theorem fmtIn_any (h : Nat) (w : World) (hh : h < M64) (hT : w.cell? ⟨3, 15, none⟩ = some (.int .u8 4)) :
    Calls Tryd.prog 27 #[.int .u64 (h : Int), .int .i64 16] w fun e w' => (∃ n, 1 ≤ n ∧ n ≤ 16 ∧ h < 16 ^ n ∧ e = .returned (.string (tx (hexK n h)))) ∧ Below w.heap.size w w' := by
  go_enter Tryd.func27, Tryd.ntmps27
  go_wp2_with fail
  refine (fmtBits_any h _ hh hT).mono ?_
  rintro e w1 ⟨⟨n, h1, h2, h3, rfl⟩, B1⟩
  have H3 := Lib.hid h3
  clear h3 hT
  go_wp2_with fail
  go_ret
  exact ⟨⟨n, h1, h2, H3.out, rfl⟩, B1⟩
set_option maxRecDepth 100000 in
set_option maxHeartbeats 800000 in
theorem fmt_any (h : Nat) (w : World) (hh : h < M64) (hT : w.cell? ⟨3, 15, none⟩ = some (.int .u8 4)) :
    Calls Tryd.prog 20 #[.int .u64 (h : Int), .int .i64 16] w fun e w' => (∃ n, 1 ≤ n ∧ n ≤ 16 ∧ h < 16 ^ n ∧ e = .returned (.string (tx (hexK n h)))) ∧ Below w.heap.size w w' := by
  go_enter Tryd.func20, Tryd.ntmps20
  go_wp2_with fail
  refine (fmtIn_any h _ hh hT).mono ?_
  rintro e w1 ⟨⟨n, h1, h2, h3, rfl⟩, B1⟩
  have H3 := Lib.hid h3
  clear h3 hT
  go_wp2_with fail
  go_ret
  exact ⟨⟨n, h1, h2, H3.out, rfl⟩, B1⟩
end Go.Proofs.YtkffaimemmgfeaaDoor
