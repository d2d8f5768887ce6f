/-
  The law's walk: unlike hashes stay unlike behind one text, two texts one behind the other are one, texts that differ in one byte have unlike hashes.
-/
import Derived.Test.YtkffaimemmgfeaaDoorFinF
import Derived.RegionTactic
import Derived.BigRegion
import Derived.Laws.IdiomStrings
import Derived.Deep.DeepCutAuto
import Derived.Deep.CutBlock
namespace Go.Proofs.YtkffaimemmgfeaaDoor.fingerTurns
open Go.RowKit Go.Shelf Fnv
set_option linter.unusedVariables false

theorem int_beq (a b : Nat) (c : Bool) (h : c = true ↔ a = b) : (((a : Nat) : Int) == ((b : Nat) : Int)) = c := by
  rw [Bool.eq_iff_iff, h]
  simp
  omega
theorem str_beq (a b : ByteArray) (c : Bool) (h : c = true ↔ a = b) : (a.toList == b.toList) = c := by
  rw [Bool.eq_iff_iff, h]
  simp
  exact ⟨toList_inj, fun e => by rw [e]⟩
theorem bl_append (a b : ByteArray) : bl (a ++ b) = bl a ++ bl b := by
  unfold bl
  rw [ByteArray.data_append]
  simp
theorem bl_empty : bl ByteArray.empty = [] := rfl
theorem keepT {B : Nat} {w w' : World} {v : Value} (hB : Below B w w') {p : Addr} (hp : p.block < B) (hT : w.cell? p = some v) : w'.cell? p = some v := (hB.cell hp).trans hT

theorem bl_head (s : ByteArray) (p : Nat) : bl (s.extract 0 p) = (bl s).take p := by
  unfold bl
  rw [ByteArray.data_extract]
  simp
theorem bl_tail (s : ByteArray) (p : Nat) : bl (s.extract p s.size) = (bl s).drop p := by
  unfold bl
  rw [ByteArray.data_extract, show s.size = s.data.size from rfl]
  simp
  rw [List.take_of_length_le]
  rw [List.length_drop, List.length_map, Array.length_toList]
  exact Nat.le_refl _
theorem bl_split (s : ByteArray) (p : Nat) (hp : p < s.size) : bl s = (bl s).take p ++ (s[p]'hp).toNat :: (bl s).drop (p + 1) := by
  have h := bl_take s p hp
  conv => lhs; rw [← List.take_append_drop (p + 1) (bl s), h]
  simp
theorem bl_one (Q : Nat) (hQ : Q < 256) : bl (tx [UInt8.ofNat Q]) = [Q] := by
  rw [bl_tx]
  simp
  omega
/-- what the law says of a byte turned -/
theorem says (h p Q by_ : Nat) (A : ByteArray) (hh : h < M64) (hp : p < A.size) (hQ : Q < 256) (e : (A[p]'hp).toNat ^^^ by_ = Q) :
    (fnR h (bl (A.extract 0 p ++ tx [UInt8.ofNat Q] ++ A.extract (p + 1) A.size)) = fnR h (bl A)) ↔ by_ = 0 := by
  rw [bl_append, bl_append, bl_head, bl_tail, bl_one Q hQ, List.append_assoc, List.singleton_append]
  conv => lhs; rhs; rw [bl_split A p hp]
  constructor
  · intro hf
    have h1 := fnR_turn (fun x hx => bl_lt A x (List.mem_of_mem_drop hx)) hh (UInt8.toNat_lt _) hQ hf
    rw [← e] at h1
    exact xor_left (h1.trans (Nat.xor_zero _).symm)
  · rintro rfl
    rw [Nat.xor_zero] at e
    rw [e]
theorem one_text (w : World) (Q : Nat) (hQ : Q < 256) :
    (convert 34 9 (.slice (some ⟨w.heap.size, 0, none⟩) 1 1)).run Tryd.prog (w.alloc (.cells #[.int .u8 (Q : Int)] 5)).drew = .ok (.string (tx [UInt8.ofNat Q])) (w.alloc (.cells #[.int .u8 (Q : Int)] 5)).drew := by
  have h := run_convert_bytes_arg (P := Tryd.prog) (w.alloc (.cells #[.int .u8 (Q : Int)] 5)).drew 34 5 Tryd.underlying34 Tryd.underlying5 w.heap.size 0 1 1 [(Q : Int)] rfl (fun i hi => by
    obtain rfl : i = 0 := by simp at hi; omega
    simp) 9 Tryd.underlying9
  rw [show strOfNums [(Q : Int)] = tx [UInt8.ofNat Q] by unfold strOfNums tx; simp] at h
  exact h
set_option maxRecDepth 100000 in
set_option maxHeartbeats 1600000 in
theorem walk (h g : Nat) (a b : ByteArray) (at_ : Int) (by_ : Nat) (w : World) (hh : h < M64) (hg : g < M64) (ha : a.size ≤ maxLen) (hb : b.size ≤ maxLen) (hby : by_ < 256) (hT : w.cell? ⟨3, 15, none⟩ = some (.int .u8 4)) :
    Calls Tryd.prog 4 #[.int .u64 (h : Int), .int .u64 (g : Int), .string a, .string b, .int .i64 at_, .int .u8 (by_ : Int)] w fun e w' => e = .returned (.bool true) ∧ Below w.heap.size w w' := by
  have hTb := World.block_lt_of_cell? _ _ hT
  have FA := fun w => fewF_any a w ha
  have FB := fun w => fewF_any b w hb
  have zA := cutF_size a
  have zB := cutF_size b
  generalize cutF a = A at *
  generalize cutF b = B at *
  clear ha hb
  -- the hashes
  obtain ⟨x, hx⟩ : ∃ x, fnR h (bl A) = x := ⟨_, rfl⟩
  obtain ⟨y, hy⟩ : ∃ y, fnR g (bl A) = y := ⟨_, rfl⟩
  obtain ⟨z, hz⟩ : ∃ z, fnR x (bl B) = z := ⟨_, rfl⟩
  have hz2 : fnR h (bl (A ++ B)) = z := by rw [bl_append, fnR_append, hx, hz]
  have hxl : x < M64 := by rw [← hx]; exact fnR_lt hh
  have hyl : y < M64 := by rw [← hy]; exact fnR_lt hg
  have M1 := fun w => more_any h A w (by omega) hh
  have M2 := fun w => more_any g A w (by omega) hg
  have M3 := fun w => more_any x B w (by omega) hxl
  have hAB : (A ++ B).size ≤ 4611686018427387904 := by rw [ByteArray.size_append]; omega
  have M4 := fun w => more_any h (A ++ B) w hAB hh
  rw [hx] at M1
  rw [hy] at M2
  rw [hz] at M3
  rw [hz2] at M4
  obtain ⟨c, hc⟩ : ∃ c : Bool, c = true ↔ h = g := ⟨decide (h = g), by simp⟩
  have c1 := int_beq h g c hc
  have c2 := int_beq x y c (by rw [hc, ← hx, ← hy]; exact ⟨fun e => by rw [e], fun e => fnR_inj (bl_lt A) hh hg e⟩)
  have c3 := str_beq (tx (hexL h)) (tx (hexL g)) c (by rw [hc]; exact ⟨fun e => by rw [e], fun e => hexL_inj hh hg (tx_inj e)⟩)
  have cc : (c != c) = false := by cases c <;> rfl
  have zz : (((z : Nat) : Int) != ((z : Nat) : Int)) = false := by simp
  have X1 := fun w hT => hex_any h w hh hT
  have X2 := fun w hT => hex_any g w hg hT
  generalize tx (hexL h) = s at *
  generalize tx (hexL g) = t at *
  have HX := Lib.hid hx
  have HC := Lib.hid hc
  clear hx hy hz hz2 hc hAB
  go_enter Tryd.func4, Tryd.ntmps4
  go_wp2_with fail
  refine (FA _).mono ?_
  rintro e w1 ⟨rfl, rfl⟩
  go_wp2_with fail
  refine (FB _).mono ?_
  rintro e w1 ⟨rfl, rfl⟩
  clear FA FB
  go_wp2_with fail
  refine (M1 _).mono ?_
  rintro e w1 ⟨rfl, B1⟩
  go_wp2_with fail
  refine (M2 _).mono ?_
  rintro e w2 ⟨rfl, B2⟩
  have B02 := B1.trans (B2.mono B1.size)
  clear B1 B2 M2
  go_wp2_with fail
  refine (M1 _).mono ?_
  rintro e w3 ⟨rfl, B3⟩
  have B03 := B02.trans (B3.mono B02.size)
  clear B02 B3
  go_wp2_with fail
  refine (M3 _).mono ?_
  rintro e w4 ⟨rfl, B4⟩
  have B04 := B03.trans (B4.mono B03.size)
  clear B03 B4 M3
  go_wp2_with fail
  refine (M4 _).mono ?_
  rintro e w5 ⟨rfl, B5⟩
  have B05 := B04.trans (B5.mono B04.size)
  clear B04 B5 M4
  go_wp2_with fail
  refine (X1 _ (keepT B05 hTb hT)).mono ?_
  rintro e w6 ⟨rfl, B6⟩
  have B06 := B05.trans (B6.mono B05.size)
  clear B05 B6 X1
  go_wp2_with fail
  refine (X2 _ (keepT B06 hTb hT)).mono ?_
  rintro e w7 ⟨rfl, B7⟩
  have B07 := B06.trans (B7.mono B06.size)
  clear B06 B7 X2
  go_wp2_with fail
  refine (aliveF_any _ (keepT B07 hTb hT)).mono ?_
  rintro e w8 ⟨rfl, B8⟩
  have B08 := B07.trans (B8.mono B07.size)
  clear B07 B8
  by_cases hA0 : A.size = 0
  · have hAe : A = ⟨#[]⟩ := by
      apply ByteArray.ext
      exact Array.eq_empty_of_size_eq_zero hA0
    have ae : A.toList.isEmpty = true := by rw [hAe]; simp
    have hxh : x = h := by rw [← HX.out, hAe]; rfl
    have xh : (((x : Nat) : Int) == ((h : Nat) : Int)) = true := by rw [hxh]; simp
    clear hAe hxh
    go_wp2_with fail
    refine (M1 _).mono ?_
    rintro e w9 ⟨rfl, B9⟩
    go_wp2_with fail
    go_ret
    exact ⟨rfl, B08.trans (B9.mono B08.size)⟩
  · have ae : A.toList.isEmpty = false := by
      cases e : A.toList.isEmpty with
      | false => rfl
      | true =>
        have e2 : A.toList = (⟨#[]⟩ : ByteArray).toList := by rw [List.isEmpty_iff.1 e]; simp
        exact absurd (by rw [toList_inj e2]; rfl) hA0
    have hm1 := Int.lt_tmod_of_pos at_ (b := (A.size : Int)) (by omega)
    have hm2 := Int.tmod_lt_of_pos at_ (b := (A.size : Int)) (by omega)
    have hL0 : ((A.size : Int)) ≠ 0 := by omega
    obtain ⟨p, hp, hpl⟩ : ∃ p : Nat, (at_.tmod (A.size : Int) + (A.size : Int)) % (A.size : Int) = (p : Int) ∧ p < A.size := by
      have h1 := Int.emod_nonneg (at_.tmod (A.size : Int) + (A.size : Int)) hL0
      have h2 := Int.emod_lt_of_pos (at_.tmod (A.size : Int) + (A.size : Int)) (b := (A.size : Int)) (by omega)
      exact ⟨((at_.tmod (A.size : Int) + (A.size : Int)) % (A.size : Int)).toNat, by omega, by omega⟩
    go_upto_region 7 with fail
    rw [hp]
    clear hp hm1 hm2 hL0
    obtain ⟨Q, HQ, hq, hQ⟩ : ∃ Q, Hid ((A[p]'hpl).toNat ^^^ by_ = Q) ∧ bits .xor .u8 ((A[p]'hpl).toNat : Int) (by_ : Int) = (Q : Int) ∧ Q < 256 := by
      refine ⟨(A[p]'hpl).toNat ^^^ by_, rfl, u8_xor_nat _ _ (UInt8.toNat_lt _) hby, ?_⟩
      have := Nat.xor_lt_two_pow (n := 8) (x := (A[p]'hpl).toNat) (y := by_) (UInt8.toNat_lt _) hby
      omega
    have hcv := one_text w8 Q hQ
    have hs1 : (A.extract 0 p).size = p := by rw [ByteArray.size_extract]; omega
    have hs2 : (tx [UInt8.ofNat Q]).size = 1 := tx_size _
    have hs3 : (A.extract (p + 1) A.size).size = A.size - (p + 1) := by rw [ByteArray.size_extract]; omega
    have hs4 : (A.extract 0 p ++ tx [UInt8.ofNat Q]).size = p + 1 := by rw [ByteArray.size_append, hs1, hs2]
    go_region
    have hsU : (A.extract 0 p ++ tx [UInt8.ofNat Q] ++ A.extract (p + 1) A.size).size = A.size := by rw [ByteArray.size_append, hs4, hs3]; omega
    have HS := says h p Q by_ A hh hpl hQ HQ.out
    rw [HX.out] at HS
    have B09 : Below w.heap.size w (w8.alloc (.cells #[.int .u8 (Q : Int)] 5)).drew := (B08.alloc B08.size _).drew
    clear hcv hs1 hs2 hs3 hs4 hq
    generalize A.extract 0 p ++ tx [UInt8.ofNat Q] ++ A.extract (p + 1) A.size = U at *
    have M5 := fun w => more_any h U w (by omega) hh
    obtain ⟨v, hv⟩ : ∃ v, fnR h (bl U) = v := ⟨_, rfl⟩
    rw [hv] at M5 HS
    obtain ⟨d, hd⟩ : ∃ d : Bool, d = true ↔ by_ = 0 := ⟨decide (by_ = 0), by simp⟩
    have d1 := int_beq v x d (by rw [hd, HS])
    have d2 : (((by_ : Nat) : Int) == 0) = d := by
      rw [Bool.eq_iff_iff, hd]
      simp
    have dd : (d == d) = true := by cases d <;> rfl
    clear hd HS hv
    generalize (w8.alloc (.cells #[.int .u8 (Q : Int)] 5)).drew = w9 at *
    go_wp2_with fail
    refine (M5 _).mono ?_
    rintro e w10 ⟨rfl, B10⟩
    go_wp2_with fail
    refine (M1 _).mono ?_
    rintro e w11 ⟨rfl, B11⟩
    go_wp2_with fail
    go_ret
    have B1011 := B10.trans (B11.mono B10.size)
    exact ⟨rfl, B09.trans (B1011.mono B09.size)⟩
end Go.Proofs.YtkffaimemmgfeaaDoor.fingerTurns
