/-
  Noughts ahead of a text; a hash as sixteen digits.
-/
import Derived.Test.YtkffaimemmgfeaaDoorFinC
import Derived.Test.YtkffaimemmgfeaaDoorLabC
namespace Go.Proofs.YtkffaimemmgfeaaDoor
open Go.RowKit Fnv
set_option linter.unusedVariables false

abbrev nouS : ByteArray := ⟨#[48]⟩
abbrev nouZ : ByteArray := ⟨#[48, 48, 48, 48, 48, 48, 48, 48, 48, 48, 48, 48, 48, 48, 48, 48, 48, 48, 48, 48, 48, 48, 48, 48, 48, 48, 48, 48, 48, 48, 48, 48, 48, 48, 48, 48, 48, 48, 48, 48, 48, 48, 48, 48, 48, 48, 48, 48, 48, 48, 48, 48, 48, 48, 48, 48, 48, 48, 48, 48, 48, 48, 48, 48]⟩
theorem nou_all : ∀ n, n < 16 → nouZ.extract 0 n = tx (List.replicate n 48) := by decide
set_option maxRecDepth 100000 in
set_option maxHeartbeats 800000 in
theorem mul64_any (n : Nat) (w : World) (hn : n < 16) :
    Calls Tryd.prog 43 #[.int .u64 1, .int .u64 (n : Int)] w fun e w' => e = .returned (.tuple #[.int .u64 0, .int .u64 (n : Int)]) ∧ w = w' := by
  have e1 : bits .and .u64 1 4294967295 = 1 := by kernel_rfl
  have e2 : bits .and .u64 (n : Int) 4294967295 = (n : Int) := by
    refine (u64_and_nat n 4294967295 (by omega) (by omega)).trans ?_
    rw [show n &&& 4294967295 = n % 4294967296 from Nat.and_two_pow_sub_one_eq_mod n 32, Nat.mod_eq_of_lt (by omega)]
  have e3 : bits .and .u64 0 4294967295 = 0 := by kernel_rfl
  have e4 : (n : Int) / 4294967296 = 0 := by omega
  go_enter Tryd.func43, Tryd.ntmps43
  go_wp2_with fail
  go_ret2
  exact ⟨rfl, rfl⟩
set_option maxRecDepth 100000 in
set_option maxHeartbeats 800000 in
theorem mul_any (n : Nat) (w : World) (hn : n < 16) :
    Calls Tryd.prog 28 #[.int .u64 1, .int .u64 (n : Int)] w fun e w' => e = .returned (.tuple #[.int .u64 0, .int .u64 (n : Int)]) ∧ w = w' := by
  go_enter Tryd.func28, Tryd.ntmps28
  go_wp2_with fail
  refine (mul64_any n _ hn).mono ?_
  rintro e w1 ⟨rfl, rfl⟩
  go_wp2_with fail
  go_ret2
  exact ⟨rfl, rfl⟩
set_option maxRecDepth 100000 in
set_option maxHeartbeats 800000 in
theorem preIn_any (w : World) :
    Calls Tryd.prog 44 #[.string nouZ, .string nouS] w fun e w' => e = .returned (.bool true) ∧ w = w' := by
  have hz : nouS.size = 1 := rfl
  have hs : nouZ.size = 64 := rfl
  have hp : nouZ.extract 0 1 = nouS := by decide
  generalize nouZ = s at *
  generalize nouS = t at *
  go_enter Tryd.func44, Tryd.ntmps44
  go_wp2_with fail
  go_ret
  exact ⟨rfl, rfl⟩
set_option maxRecDepth 100000 in
set_option maxHeartbeats 800000 in
theorem pre_any (w : World) :
    Calls Tryd.prog 29 #[.string nouZ, .string nouS] w fun e w' => e = .returned (.bool true) ∧ w = w' := by
  have H := preIn_any w
  generalize nouZ = s at *
  generalize nouS = t at *
  go_enter Tryd.func29, Tryd.ntmps29
  go_wp2_with fail
  refine H.mono ?_
  rintro e w1 ⟨rfl, rfl⟩
  go_wp2_with fail
  go_ret
  exact ⟨rfl, rfl⟩
theorem one_ne (c : UInt8) (hc : c ≠ 48) : ¬ ((⟨#[c]⟩ : ByteArray) = nouS) := by
  intro h
  have := congrArg ByteArray.data h
  simp at this
  exact hc this
set_option maxRecDepth 100000 in
set_option maxHeartbeats 800000 in
theorem preInNo_any (s : ByteArray) (c : UInt8) (w : World) (hs : s.size = 128) (hp : s.extract 0 1 = ⟨#[c]⟩) (hc : c ≠ 48) :
    Calls Tryd.prog 44 #[.string s, .string nouS] w fun e w' => e = .returned (.bool false) ∧ w = w' := by
  have hz : nouS.size = 1 := rfl
  have hne := one_ne c hc
  generalize (⟨#[c]⟩ : ByteArray) = u at *
  generalize nouS = t at *
  have hq : (u.toList == t.toList) = false := by
    rw [beq_eq_false_iff_ne]
    exact fun e => hne (toList_inj e)
  go_enter Tryd.func44, Tryd.ntmps44
  go_wp2_with fail
  go_ret
  exact ⟨rfl, rfl⟩
set_option maxRecDepth 100000 in
set_option maxHeartbeats 800000 in
theorem preNo_any (s : ByteArray) (c : UInt8) (w : World) (hs : s.size = 128) (hp : s.extract 0 1 = ⟨#[c]⟩) (hc : c ≠ 48) :
    Calls Tryd.prog 29 #[.string s, .string nouS] w fun e w' => e = .returned (.bool false) ∧ w = w' := by
  have H := preInNo_any s c w hs hp hc
  clear hs hp
  generalize nouS = t at *
  go_enter Tryd.func29, Tryd.ntmps29
  go_wp2_with fail
  refine H.mono ?_
  rintro e w1 ⟨rfl, rfl⟩
  go_wp2_with fail
  go_ret
  exact ⟨rfl, rfl⟩
set_option maxRecDepth 100000 in
set_option maxHeartbeats 1600000 in
theorem repeat_any (n : Nat) (w : World) (hn : n < 16) :
    Calls Tryd.prog 21 #[.string nouS, .int .i64 (n : Int)] w fun e w' => e = .returned (.string (tx (List.replicate n 48))) ∧ w = w' := by
  have HN := Lib.hid (nou_all n hn)
  have HP := pre_any w
  rcases (show n = 0 ∨ n = 1 ∨ 2 ≤ n by omega) with rfl | rfl | h2
  · go_enter Tryd.func21, Tryd.ntmps21
    go_wp2_with fail
    go_ret
    exact ⟨rfl, rfl⟩
  · go_enter Tryd.func21, Tryd.ntmps21
    go_wp2_with fail
    go_ret
    exact ⟨rfl, rfl⟩
  · have n0 : ((n : Int) == 0) = false := by simp; omega
    have n1 : ((n : Int) == 1) = false := by simp; omega
    have HM := mul_any n w hn
    have c32 : (((nouS[0]'(by decide)).toNat : Int) == 32) = false := by decide
    have c45 : (((nouS[0]'(by decide)).toNat : Int) == 45) = false := by decide
    have c48 : (((nouS[0]'(by decide)).toNat : Int) == 48) = true := by decide
    go_enter Tryd.func21, Tryd.ntmps21
    go_wp2_with fail
    refine HM.mono ?_
    rintro e w1 ⟨rfl, rfl⟩
    go_wp2_with fail
    refine (preNo_any _ 32 _ (by decide) (by decide) (by decide)).mono ?_
    rintro e w2 ⟨rfl, rfl⟩
    go_wp2_with fail
    refine (preNo_any _ 45 _ (by decide) (by decide) (by decide)).mono ?_
    rintro e w3 ⟨rfl, rfl⟩
    go_wp2_with fail
    refine HP.mono ?_
    rintro e w4 ⟨rfl, rfl⟩
    go_wp2_with fail
    go_ret
    exact ⟨retS HN.out, rfl⟩
set_option maxRecDepth 100000 in
set_option maxHeartbeats 800000 in
theorem hexIn_any (h : Nat) (w : World) (hh : h < M64) (hT : w.cell? ⟨3, 15, none⟩ = some (.int .u8 4)) :
    Calls Tryd.prog 16 #[.int .u64 (h : Int)] w fun e w' => e = .returned (.string (tx (hexL h))) ∧ Below w.heap.size w w' := by
  go_enter Tryd.func16, Tryd.ntmps16
  go_wp2_with fail
  refine (fmt_any h _ hh hT).mono ?_
  rintro e w1 ⟨⟨n, h1, h2, h3, rfl⟩, B1⟩
  have HX := Lib.hid (hexL_more h2 h3)
  have HA := Lib.hid (tx_append (List.replicate (16 - n) 48) (hexK n h))
  have hz := tx_size (hexK n h)
  have hz2 := tx_size (List.replicate (16 - n) (48 : UInt8))
  rw [hexK_length] at hz
  rw [List.length_replicate] at hz2
  obtain ⟨m, hm⟩ : ∃ m, 16 - n = m := ⟨_, rfl⟩
  rw [hm] at hz2 HA HX
  have e1 : (16 : Int) - (n : Int) = (m : Int) := by omega
  have HR := repeat_any m w1 (by omega)
  clear h3 hT
  generalize tx (hexK n h) = t at *
  generalize tx (List.replicate m 48) = z at *
  go_wp2_with fail
  refine HR.mono ?_
  rintro e w2 ⟨rfl, rfl⟩
  go_wp2_with fail
  go_ret
  exact ⟨retS (by rw [HA.out, HX.out]), B1⟩
set_option maxRecDepth 100000 in
set_option maxHeartbeats 800000 in
theorem hex_any (h : Nat) (w : World) (hh : h < M64) (hT : w.cell? ⟨3, 15, none⟩ = some (.int .u8 4)) :
    Calls Tryd.prog 9 #[.int .u64 (h : Int)] w fun e w' => e = .returned (.string (tx (hexL h))) ∧ Below w.heap.size w w' := by
  go_enter Tryd.func9, Tryd.ntmps9
  go_wp2_with fail
  refine (hexIn_any h _ hh hT).mono ?_
  rintro e w1 ⟨rfl, B1⟩
  clear hT
  go_wp2_with fail
  go_ret
  exact ⟨rfl, B1⟩
end Go.Proofs.YtkffaimemmgfeaaDoor
