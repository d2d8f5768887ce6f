/-
  The document's own stamp, sealed sector, and what it opens.
-/
import Derived.Test.YtmjbhmmcpjhmcaaSealD
import Derived.IntWalk
namespace Go.Proofs.Ytmjbhmmcpjhmcaa
open Go.RowKit
set_option linter.unusedVariables false

set_option maxRecDepth 100000 in
set_option maxHeartbeats 800000 in
theorem rStamp_any (g n : Int) (w : World) :
    Calls Try.prog 80 #[.int .i64 g, .int .i64 n] w fun e w' => e = .returned (.bool (stampB g n)) ∧ w = w' := by
  by_cases h1 : 1 ≤ g
  · by_cases h2 : g ≤ 250
    · by_cases h3 : 0 ≤ n
      · by_cases h4 : n ≤ 64
        · go_enter Try.func80, Try.ntmps80
          go_wp2
          go_ret
          exact ⟨ret_bool (stamp_yes g n ⟨h1, h2, h3, h4⟩), rfl⟩
        · go_enter Try.func80, Try.ntmps80
          go_wp2
          go_ret
          exact ⟨ret_bool (stamp_no g n (by omega)), rfl⟩
      · go_enter Try.func80, Try.ntmps80
        go_wp2
        go_ret
        exact ⟨ret_bool (stamp_no g n (by omega)), rfl⟩
    · go_enter Try.func80, Try.ntmps80
      go_wp2
      go_ret
      exact ⟨ret_bool (stamp_no g n (by omega)), rfl⟩
  · go_enter Try.func80, Try.ntmps80
    go_wp2
    go_ret
    exact ⟨ret_bool (stamp_no g n (by omega)), rfl⟩

theorem conv2 (w : World) (a b : Int) : (convert 87 9 (.slice (some ⟨w.heap.size, 0, none⟩) 2 2)).run Try.prog (w.alloc (.cells #[.int .u8 a, .int .u8 b] 5)) = .ok (.string (strOfNums [a, b])) (w.alloc (.cells #[.int .u8 a, .int .u8 b] 5)) := by
  refine run_convert_bytes_arg _ 87 5 Try.underlying87 Try.underlying5 w.heap.size 0 2 2 [a, b] rfl ?_ 9 Try.underlying9
  intro i hi
  rw [World.cell?_alloc_at _ _ _ _ rfl]
  match i, hi with
  | 0, _ => rfl
  | 1, _ => rfl
theorem conv1 {V : World} {B : Nat} {a : Int} (h : V.heap[B]? = some (.cells #[.int .u8 a] 5 (0, 0))) : (convert 87 9 (.slice (some ⟨B, 0, none⟩) 1 1)).run Try.prog V = .ok (.string (strOfNums [a])) V := by
  refine run_convert_bytes_arg _ 87 5 Try.underlying87 Try.underlying5 B 0 1 1 [a] rfl ?_ 9 Try.underlying9
  intro i hi
  rw [cell_of_row V B _ _ _ _ h]
  match i, hi with
  | 0, _ => rfl
set_option maxRecDepth 100000 in
set_option maxHeartbeats 400000 in
theorem rstamp_any (g n : Int) (w : World) (h1 : 0 ≤ g) (h2 : g ≤ 250) (h3 : 0 ≤ n) (h4 : n ≤ 64) :
    Calls Try.prog 68 #[.int .i64 g, .int .i64 n] w fun e w' => e = .returned (.string (stampS g n)) ∧ Below w.heap.size w w' := by
  have hcv := conv2
  have e : Hid (strOfNums [g, n] = stampS g n) := by
    show _ = _
    unfold stampS
    rw [show g % 256 = g by omega, show n % 256 = n by omega]
  go_enter Try.func68, Try.ntmps68
  go_wp2
  go_ret
  exact ⟨ret_str e.out, below_alloc w _⟩

theorem zeros_int (x : Int) (n : Nat) (w : World) (hx : x = (n : Int)) (hn : n ≤ 1000) :
    Calls Try.prog 67 #[.int .i64 x] w fun e w' => e = .returned (.string (zerosB n)) ∧ w = w' := by
  subst hx
  exact zeros_any n w hn
theorem stamp_size (g n : Int) : (stampS g n).size = 2 := by unfold stampS; rw [strOfNums_size]; rfl
theorem head_size (g n : Int) (p : ByteArray) (hp : p.size ≤ 96) : (headS g n p).size = 99 := by
  have h := head_length (byteOf g) (byteOf n) (byteOf p.size) p.data.toList (by rw [Array.length_toList]; exact hp)
  rw [← head_list, Array.length_toList] at h
  exact h
theorem shp1 {w w1 : World} {o : Obj} (hB1 : Below w.drew.heap.size w.drew w1) : Below w.heap.size w (w1.alloc o) := ((Below.refl w.heap.size w).drew.trans (hB1.mono (Nat.le_refl _))).alloc hB1.size _
theorem shp2 {w w1 : World} {o : Obj} (hB1 : Below (w.alloc o).drew.heap.size (w.alloc o).drew w1) : Below w.heap.size w w1 := ((below_alloc w o).drew).trans (hB1.mono (by simp))
theorem head_eq (g n : Int) (p : ByteArray) : stampS g n ++ strOfNums [IntKind.u8.wrap (p.size : Int)] ++ p ++ zerosB (96 - p.size) = headS g n p := by
  unfold headS
  rw [IntKind.wrap_u8]
set_option maxRecDepth 100000 in
set_option maxHeartbeats 3200000 in
theorem rSeal_any (g n : Int) (p : ByteArray) (w : World) (h1 : 0 ≤ g) (h2 : g ≤ 250) (h3 : 0 ≤ n) (h4 : n ≤ 64) (hp : p.size ≤ 96) :
    Calls Try.prog 44 #[.int .i64 g, .int .i64 n, .string p] w fun e w' => e = .returned (.string (sealS g n p)) ∧ Below w.heap.size w w' := by
  go_enter Try.func44, Try.ntmps44
  go_upto_region 1 with fail
  go_cut [7] (fun s7 wx => s7 = .string (headS g n p) ∧ Below w.heap.size w wx)
  case first =>
    · have e3 : (96 : Int) - (p.size : Int) = ((96 - p.size : Nat) : Int) := by omega
      have e4 : IntKind.i64.wrap ((96 : Int) - (p.size : Int)) = ((96 - p.size : Nat) : Int) := by rw [IntWalk.i64_in _ (by omega)]; exact e3
      have E3 := Lib.hid e3
      have E4 := Lib.hid e4
      clear e3 e4
      have z0 := stamp_size g n
      have z1 : (strOfNums [IntKind.u8.wrap (p.size : Int)]).size = 1 := by rw [strOfNums_size]; rfl
      have z2 := zeros_size (96 - p.size)
      have hcv := fun (V : World) (a : Int) => conv1 (heap_alloc_new V (.cells #[.int .u8 a] 5))
      have hcd := fun (V : World) (a : Int) => conv1 (V := (V.alloc (.cells #[.int .u8 a] 5)).drew) (heap_alloc_new V (.cells #[.int .u8 a] 5))
      have y1 : 3 + p.size ≤ 9223372036854775807 := by omega
      have x1 : ¬ 9223372036854775807 < 3 + p.size := by omega
      have x2 : ¬ 9223372036854775807 < 3 + p.size + (zerosB (96 - p.size)).size := by rw [z2]; omega
      clear z2
      go_region_with (first
        | (go_at_call 68; refine (rstamp_any _ _ _ h1 h2 h3 h4).mono ?_; rintro e w1 ⟨rfl, hB1⟩; try (have hX : Below (w.alloc (.cells #[.int .u8 (IntKind.u8.wrap p.size)] 5)).drew.heap.size (w.alloc (.cells #[.int .u8 (IntKind.u8.wrap p.size)] 5)).drew w1 := (by with_reducible assumption); have hcv1 := conv1 (keepB hX (heap_alloc_new w (.cells #[.int .u8 (IntKind.u8.wrap p.size)] 5))); clear hX))
        | (go_at_call 67; refine (zeros_int _ (96 - p.size) _ (by first | exact E3.out | exact E4.out | rfl) (by omega)).mono ?_; rintro e w' ⟨rfl, rfl⟩))
      all_goals (go_wp2_with fail; go_meet)
      all_goals (refine ⟨str_eq (head_eq g n p), ?_⟩)
      all_goals first
        | (with_reducible exact shp1 hB1)
        | (with_reducible exact shp2 hB1)
  case rest =>
    obtain ⟨rfl, hB⟩ := hcut
    have z0 := head_size g n p hp
    have z1 := sum_size (headS g n p)
    have z2 := zeros_size 23
    have z3 := stamp_size g n
    go_wp2_with fail
    refine (rsum_any _ _ (by rw [z0]; unfold maxLen; omega)).mono ?_
    rintro e w' ⟨rfl, rfl⟩
    go_wp2_with fail
    refine (rfour_any _ _).mono ?_
    rintro e w2 ⟨rfl, hB2⟩
    rw [show fourS (moreN 0 (bl (headS g n p))) = sumS (headS g n p) from rfl]
    go_wp2_with fail
    refine (zeros_any 23 _ (by omega)).mono ?_
    rintro e w' ⟨rfl, rfl⟩
    go_wp2_with fail
    refine (rstamp_any _ _ _ h1 h2 h3 h4).mono ?_
    rintro e w3 ⟨rfl, hB3⟩
    go_wp2_with fail
    go_ret
    exact ⟨rfl, (hB.trans (hB2.mono hB.size)).trans (hB3.mono (Nat.le_trans hB.size hB2.size))⟩
end Go.Proofs.Ytmjbhmmcpjhmcaa
