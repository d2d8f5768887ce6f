/-
  The sealed sector: as the document lays it, and as the array is filled.
-/
import Derived.Test.YtmjbhmmcpjhmcaaSealA
import Derived.Deep.RegionWith
import Derived.Deep.DeepCutAuto
namespace Go.Proofs.Ytmjbhmmcpjhmcaa
open Go.RowKit
set_option linter.unusedVariables false

/-- a stamp's bytes -/
def stampS (g n : Int) : ByteArray := strOfNums [g % 256, n % 256]
/-- what is summed -/
def headS (g n : Int) (p : ByteArray) : ByteArray := stampS g n ++ strOfNums [(p.size : Int) % 256] ++ p ++ zerosB (96 - p.size)
/-- the sealed sector -/
def sealS (g n : Int) (p : ByteArray) : ByteArray := headS g n p ++ sumS (headS g n p) ++ zerosB 23 ++ stampS g n

def byteOf (x : Int) : UInt8 := UInt8.ofNat (x % 256).toNat
theorem byteOf_toNat (x : Int) : ((byteOf x).toNat : Int) = x % 256 := by
  unfold byteOf
  have : (x % 256).toNat < 256 := by omega
  rw [UInt8.toNat_ofNat', Nat.mod_eq_of_lt (by simpa using this)]
  omega
/-- what is summed, as bytes -/
def headL (a b c : UInt8) (p : List UInt8) : List UInt8 := [a, b, c] ++ p ++ List.replicate (96 - p.length) 0
theorem head_length (a b c : UInt8) (p : List UInt8) (h : p.length ≤ 96) : (headL a b c p).length = 99 := by
  unfold headL
  simp
  omega
theorem fill1 (a b c : UInt8) : (((List.replicate 128 (0 : UInt8)).set 0 a).set 1 b).set 2 c = [a, b, c] ++ List.replicate 125 0 := by
  simp [List.replicate_succ]
theorem fill2 (a b c : UInt8) (p : List UInt8) (h : p.length ≤ 96) : putAt ([a, b, c] ++ List.replicate 125 0) 3 p = headL a b c p ++ List.replicate 29 0 := by
  have e : List.replicate 125 (0 : UInt8) = List.replicate p.length 0 ++ (List.replicate (96 - p.length) 0 ++ List.replicate 29 0) := by
    rw [List.replicate_append_replicate, List.replicate_append_replicate]
    congr 1
    omega
  rw [e, ← List.append_assoc, put_mid _ _ _ _ 3 rfl (by simp)]
  unfold headL
  simp only [List.append_assoc]
theorem fill3 (H S : List UInt8) (hH : H.length = 99) (hS : S.length = 4) : putAt (H ++ List.replicate 29 0) 99 S = H ++ S ++ List.replicate 25 0 := by
  have e : List.replicate 29 (0 : UInt8) = List.replicate 4 0 ++ List.replicate 25 0 := by rw [List.replicate_append_replicate]
  rw [e, ← List.append_assoc, put_mid _ _ _ _ _ hH (by simp [hS])]
theorem fill4 (H S T : List UInt8) (hH : H.length = 99) (hS : S.length = 4) (hT : T.length = 2) : putAt (H ++ S ++ List.replicate 25 0) 126 T = H ++ S ++ List.replicate 23 0 ++ T := by
  have e : List.replicate 25 (0 : UInt8) = List.replicate 23 0 ++ (List.replicate 2 0 ++ []) := by rw [List.append_nil, List.replicate_append_replicate]
  rw [e, ← List.append_assoc, ← List.append_assoc, put_mid _ _ _ _ _ (by simp [hH, hS]) (by simp [hT]), List.append_nil]
theorem head_take (a b c : UInt8) (p R : List UInt8) : ((headL a b c p ++ R).drop 0).take 2 = [a, b] := by unfold headL; rfl
theorem strOfNums_list (xs : List Int) : (strOfNums xs).data.toList = xs.map fun n => UInt8.ofNat n.toNat := by rw [strOfNums_data]
theorem stamp_list (g n : Int) : (stampS g n).data.toList = [byteOf g, byteOf n] := by unfold stampS; rw [strOfNums_list]; rfl
theorem zeros_list (n : Nat) : (zerosB n).data.toList = List.replicate n 0 := by unfold zerosB; simp
theorem app_list (a b : ByteArray) : (a ++ b).data.toList = a.data.toList ++ b.data.toList := by rw [ByteArray.data_append]; simp
theorem head_list (g n : Int) (p : ByteArray) : (headS g n p).data.toList = headL (byteOf g) (byteOf n) (byteOf p.size) p.data.toList := by
  unfold headS headL
  rw [app_list, app_list, app_list, stamp_list, zeros_list, strOfNums_list, Array.length_toList]
  rfl
theorem head_sub (a b c : UInt8) (p R : List UInt8) (h : p.length ≤ 96) : sub (headL a b c p ++ R) 0 99 = ⟨(headL a b c p).toArray⟩ := by
  unfold sub
  rw [List.drop_zero, ← head_length a b c p h, List.take_left]
theorem head_back (g n : Int) (p : ByteArray) : (⟨(headL (byteOf g) (byteOf n) (byteOf p.size) p.data.toList).toArray⟩ : ByteArray) = headS g n p := by
  apply bytes_eq
  rw [head_list]
theorem seal_list (g n : Int) (p : ByteArray) : (sealS g n p).data.toList = headL (byteOf g) (byteOf n) (byteOf p.size) p.data.toList ++ (sumS (headS g n p)).data.toList ++ List.replicate 23 0 ++ [byteOf g, byteOf n] := by
  unfold sealS
  rw [app_list, app_list, app_list, stamp_list, zeros_list, head_list]
theorem seal_size (g n : Int) (p : ByteArray) (h : p.size ≤ 96) : (sealS g n p).size = 128 := by
  have h1 : (sealS g n p).data.toList.length = 128 := by
    rw [seal_list]
    have h2 := head_length (byteOf g) (byteOf n) (byteOf p.size) p.data.toList (by rw [Array.length_toList]; exact h)
    have h3 : (sumS (headS g n p)).data.toList.length = 4 := by rw [Array.length_toList]; exact sum_size _
    rw [List.length_append, List.length_append, List.length_append, h2, h3, List.length_replicate]
    rfl
  rw [Array.length_toList] at h1
  exact h1
/-- the variable that holds the fields -/
def FRow (w : World) (F A : Nat) : Prop := w.heap[F]? = some (.cells (fieldsOf A) 115 (0, 0))
theorem FRow.cell {w : World} {F A : Nat} (h : FRow w F A) (i : Nat) : w.cell? ⟨F, i, none⟩ = (fieldsOf A)[i]? := cell_of_row w F i _ _ _ h
theorem FRow.below {w w' : World} {F A : Nat} (h : FRow w F A) (hB : Below w.heap.size w w') : FRow w' F A := keepB hB h
theorem FRow.other {w : World} {F A : Nat} (h : FRow w F A) {p : Addr} (hne : p.block ≠ F) (v : Value) : FRow (w.setCell p v) F A :=
  (Below.heap_setCell _ _ _ _ (Ne.symm hne)).trans h

set_option maxRecDepth 100000 in
set_option maxHeartbeats 1600000 in
theorem seal_ok (g n : Int) (p : ByteArray) (w : World) (hst : stampB g n = true) (hp : p.size ≤ 96) :
    Calls Try.prog 76 #[.int .i64 g, .int .i64 n, .string p] w fun e w' => e = .returned (.tuple #[.string (sealS g n p), .int .i64 0]) ∧ Below w.heap.size w w' := by
  have hz := zeroArr
  obtain ⟨h1, h2, h3, h4⟩ := (stamp_iff g n).1 hst
  go_enter Try.func76, Try.ntmps76
  go_wp2_with fail
  refine (isStamp_any _ _ _).mono ?_
  rintro e w' ⟨rfl, rfl⟩
  rw [hst]
  clear hst
  go_wp2_with fail
  refine (cut_any _ _).mono ?_
  rintro e w1 ⟨rfl, hB1⟩
  rw [show fieldsOf w.heap.size = #[.slice (some ⟨w.heap.size, 0, none⟩) 2 2, .slice (some ⟨w.heap.size, 2, none⟩) 1 1, .slice (some ⟨w.heap.size, 3, none⟩) 96 96, .slice (some ⟨w.heap.size, 0, none⟩) 99 99, .slice (some ⟨w.heap.size, 99, none⟩) 4 4, .slice (some ⟨w.heap.size, 126, none⟩) 2 2] from rfl]
  go_wp2_with fail
  have hF := heap_alloc_new w1 (.cells (fieldsOf w.heap.size) 115)
  have hR : BRow (w1.alloc (.cells (fieldsOf w.heap.size) 115)) w.heap.size (List.replicate 128 0) := ((row_new w).below hB1).below (below_alloc w1 _)
  have hBB : Below w.heap.size w (w1.alloc (.cells (fieldsOf w.heap.size) 115)) := ((below_alloc w _).trans (hB1.mono (by simp))).trans ((below_alloc w1 _).mono (by have := hB1.size; simp at this; omega))
  have hne : ¬ w.heap.size = w1.heap.size := by have := hB1.size; simp at this; omega
  have hA := Nat.le_refl w.heap.size
  generalize hW : w1.alloc (.cells (fieldsOf w.heap.size) 115) = W at *
  have HW := Lib.hid hW
  clear hW hB1
  rw [show #[.slice (some ⟨w.heap.size, 0, none⟩) 2 2, .slice (some ⟨w.heap.size, 2, none⟩) 1 1, .slice (some ⟨w.heap.size, 3, none⟩) 96 96, .slice (some ⟨w.heap.size, 0, none⟩) 99 99, .slice (some ⟨w.heap.size, 99, none⟩) 4 4, .slice (some ⟨w.heap.size, 126, none⟩) 2 2] = fieldsOf w.heap.size from rfl, HW.out]
  replace hF : FRow W w1.heap.size w.heap.size := hF
  clear HW
  generalize w1.heap.size = F at *
  have hne2 : ¬ F = w.heap.size := fun e => hne e.symm
  have c0 : W.cell? ⟨F, 0, none⟩ = some (.slice (some ⟨w.heap.size, 0, none⟩) 2 2) := hF.cell 0
  have r0 := hR.cell 0 (by simp)
  have r1 := hR.cell 1 (by simp)
  have f0 := hR.free 0
  have f1 := hR.free 1
  go_region
  clear r0 r1 f0 f1 c0
  have eg : g = ((byteOf g).toNat : Int) := by rw [byteOf_toNat]; omega
  have en : n = ((byteOf n).toNat : Int) := by rw [byteOf_toNat]; omega
  have ep : (p.size : Int) = ((byteOf p.size).toNat : Int) := by rw [byteOf_toNat]; omega
  have hR2 : BRow ((W.setCell ⟨w.heap.size, 0, none⟩ (.int .u8 g)).setCell ⟨w.heap.size, 1, none⟩ (.int .u8 n)).drew w.heap.size (((List.replicate 128 0).set 0 (byteOf g)).set 1 (byteOf n)) := (hR.set 0 _ eg).set 1 _ en
  have hF2 : FRow ((W.setCell ⟨w.heap.size, 0, none⟩ (.int .u8 g)).setCell ⟨w.heap.size, 1, none⟩ (.int .u8 n)).drew F w.heap.size := (hF.other hne _).other hne _
  have hB2 : Below w.heap.size w ((W.setCell ⟨w.heap.size, 0, none⟩ (.int .u8 g)).setCell ⟨w.heap.size, 1, none⟩ (.int .u8 n)).drew := ((hBB.setCell (Nat.le_refl _) _).setCell (Nat.le_refl _) _).drew
  have HP := Lib.hid ep
  clear hR hF hBB eg en ep
  generalize World.drew _ = W2 at *
  have c1 : W2.cell? ⟨F, 1, none⟩ = some (.slice (some ⟨w.heap.size, 2, none⟩) 1 1) := hF2.cell 1
  have r2 := hR2.cell 2 (by simp)
  have f2 := hR2.free 2
  have hR3 := hR2.set 2 _ HP.out
  have hF3 : FRow (W2.setCell ⟨w.heap.size, 2, none⟩ (.int .u8 p.size)) F w.heap.size := hF2.other hne _
  have hB3 : Below w.heap.size w (W2.setCell ⟨w.heap.size, 2, none⟩ (.int .u8 p.size)) := hB2.setCell (Nat.le_refl _) _
  rw [fill1] at hR3
  have c2 : (W2.setCell ⟨w.heap.size, 2, none⟩ (.int .u8 p.size)).cell? ⟨F, 2, none⟩ = some (.slice (some ⟨w.heap.size, 3, none⟩) 96 96) := hF3.cell 2
  have hcp := fun ty => run_copy_text _ ty w.heap.size 3 96 96 p _ hR3 hp (by simp; omega)
  rw [fill2 _ _ _ _ (by rw [Array.length_toList]; exact hp)] at hcp
  have hR4 := hR3.setRow (headL (byteOf g) (byteOf n) (byteOf p.size) p.data.toList ++ List.replicate 29 0)
  have hF4 : FRow ((W2.setCell ⟨w.heap.size, 2, none⟩ (.int .u8 p.size)).setRow w.heap.size (cellsS (headL (byteOf g) (byteOf n) (byteOf p.size) p.data.toList ++ List.replicate 29 0)).toArray) F w.heap.size := (setRow_other _ _ _ _ hne2).trans hF3
  have hB4 := below_setRow hB3 (Nat.le_refl w.heap.size) (cellsS (headL (byteOf g) (byteOf n) (byteOf p.size) p.data.toList ++ List.replicate 29 0)).toArray
  obtain ⟨W4, hW4⟩ : ∃ W4, W4 = (W2.setCell ⟨w.heap.size, 2, none⟩ (.int .u8 p.size)).setRow w.heap.size (cellsS (headL (byteOf g) (byteOf n) (byteOf p.size) p.data.toList ++ List.replicate 29 0)).toArray := ⟨_, rfl⟩
  rw [← hW4] at hR4 hF4 hB4 hcp
  clear hW4 hR2 hF2 hB2 hR3 hF3 hB3
  go_wp2_with fail
  clear hcp r2 f2 c1 c2
  have HE := Lib.hid (head_sub (byteOf g) (byteOf n) (byteOf p.size) p.data.toList (List.replicate 29 0) (by rw [Array.length_toList]; exact hp))
  have HL := Lib.hid (head_length (byteOf g) (byteOf n) (byteOf p.size) p.data.toList (by rw [Array.length_toList]; exact hp))
  have hL4 : (headL (byteOf g) (byteOf n) (byteOf p.size) p.data.toList ++ List.replicate 29 0).length = 128 := by rw [List.length_append, HL.out, List.length_replicate]
  have HB := Lib.hid (head_back g n p)
  have HS : Hid ((sumS (headS g n p)).data.toList.length = 4) := by show _ = _; rw [Array.length_toList]; exact sum_size _
  have hL := Lib.hid hL4
  clear hL4
  obtain ⟨D, hD⟩ : ∃ D, D = headL (byteOf g) (byteOf n) (byteOf p.size) p.data.toList := ⟨_, rfl⟩
  have HD := Lib.hid hD
  rw [← hD] at hR4 HE HL HB hL
  clear hD
  have c0 : W4.cell? ⟨F, 0, none⟩ = some (.slice (some ⟨w.heap.size, 0, none⟩) 2 2) := hF4.cell 0
  have c1 : W4.cell? ⟨F, 1, none⟩ = some (.slice (some ⟨w.heap.size, 2, none⟩) 1 1) := hF4.cell 1
  have c2 : W4.cell? ⟨F, 2, none⟩ = some (.slice (some ⟨w.heap.size, 3, none⟩) 96 96) := hF4.cell 2
  have c3 : W4.cell? ⟨F, 3, none⟩ = some (.slice (some ⟨w.heap.size, 0, none⟩) 99 99) := hF4.cell 3
  have c4 : W4.cell? ⟨F, 4, none⟩ = some (.slice (some ⟨w.heap.size, 99, none⟩) 4 4) := hF4.cell 4
  have c5 : W4.cell? ⟨F, 5, none⟩ = some (.slice (some ⟨w.heap.size, 126, none⟩) 2 2) := hF4.cell 5
  go_region_with (go_at_call 86; refine (sumOf_any w.heap.size (D ++ List.replicate 29 0) W4.drew hR4 hL.out).mono ?_; rintro e w5 ⟨rfl, hB5⟩; have d4 := keepC hB5 c4; have hR5 := BRow.below (w := W4.drew) hR4 hB5; have hF5 := FRow.below (w := W4.drew) hF4 hB5; have hBB : Below w.heap.size w w5 := (hB4.drew).trans (hB5.mono hB4.size); rw [HE.out, HB.out]; have hcp := fun ty => run_copy_text w5 ty w.heap.size 99 4 4 (sumS (headS g n p)) _ hR5 (by rw [sum_size]; omega) (by rw [sum_size, hL.out]; omega); rw [fill3 _ _ HL.out HS.out] at hcp; obtain ⟨W6, hW6⟩ : ∃ W6, W6 = w5.setRow w.heap.size (cellsS (D ++ (sumS (headS g n p)).data.toList ++ List.replicate 25 0)).toArray := ⟨_, rfl⟩; rw [← hW6] at hcp; have HW6 := Lib.hid hW6; clear hW6)
  all_goals
    clear hcp d4 c0 c1 c2 c3 c4 c5
    have hR6 : BRow W6 w.heap.size (D ++ (sumS (headS g n p)).data.toList ++ List.replicate 25 0) := by
      rw [HW6.out]
      exact hR5.setRow _
    have hF6 : FRow W6 F w.heap.size := by
      rw [HW6.out]
      exact (setRow_other _ _ _ _ hne2).trans hF5
    have hB6 : Below w.heap.size w W6 := by
      rw [HW6.out]
      exact below_setRow hBB (Nat.le_refl _) _
    clear HW6 hR5 hF5 hBB hB5 hR4 hF4 hB4
    have hT : ((D ++ (sumS (headS g n p)).data.toList ++ List.replicate 25 0).drop 0).take 2 = [byteOf g, byteOf n] := by
      rw [HD.out, List.append_assoc]
      exact head_take _ _ _ _ _
    have c0 : W6.cell? ⟨F, 0, none⟩ = some (.slice (some ⟨w.heap.size, 0, none⟩) 2 2) := hF6.cell 0
    have c5 : W6.cell? ⟨F, 5, none⟩ = some (.slice (some ⟨w.heap.size, 126, none⟩) 2 2) := hF6.cell 5
    have hL6 : (D ++ (sumS (headS g n p)).data.toList ++ List.replicate 25 0).length = 128 := by rw [List.length_append, List.length_append, HL.out, HS.out, List.length_replicate]
    have hcp := fun ty => run_copy_self W6 ty w.heap.size 126 0 2 2 2 _ hR6 (by rw [hL6]; omega) (by rw [hL6]; omega)
    rw [hT, fill4 _ _ _ HL.out HS.out rfl] at hcp
    have hcv := run_string _ w.heap.size 0 128 128 _ (hR6.setRow (D ++ (sumS (headS g n p)).data.toList ++ List.replicate 23 0 ++ [byteOf g, byteOf n])) (by rw [List.length_append, List.length_append, List.length_append, HL.out, HS.out, List.length_replicate]; exact Nat.le_refl _)
    have hB7 := below_setRow hB6 (Nat.le_refl w.heap.size) (cellsS (D ++ (sumS (headS g n p)).data.toList ++ List.replicate 23 0 ++ [byteOf g, byteOf n])).toArray
    obtain ⟨W7, hW7⟩ : ∃ W7, W7 = W6.setRow w.heap.size (cellsS (D ++ (sumS (headS g n p)).data.toList ++ List.replicate 23 0 ++ [byteOf g, byteOf n])).toArray := ⟨_, rfl⟩
    rw [← hW7] at hcp hcv hB7
    have e : sub (D ++ (sumS (headS g n p)).data.toList ++ List.replicate 23 0 ++ [byteOf g, byteOf n]) 0 128 = sealS g n p := by
      apply bytes_eq
      rw [seal_list, ← HD.out]
      unfold sub
      rw [List.drop_zero, List.take_of_length_le]
      rw [List.length_append, List.length_append, List.length_append, HL.out, HS.out, List.length_replicate]
      exact Nat.le_refl _
    rw [e] at hcv
    have hal := arrAll w.heap.size
    clear hW7 hT hL6 e hR6 hF6 hB6 HD HB HE
    go_wp2_with fail
    go_ret2
    exact ⟨rfl, hB7⟩
end Go.Proofs.Ytmjbhmmcpjhmcaa
