/-
  The laws' own helpers: a text's first bytes, 128 bytes from any, a sealed sector from any numbers and any text; and the one payload that they ask for each time.
-/
import Derived.Test.YtmpdfpknjkaabaaFacts3
namespace Go.Proofs.Ytmpdfpknjkaabaa
open Go.RowKit
set_option linter.unusedVariables false

set_option maxHeartbeats 400000 in
theorem few_any (s : ByteArray) (w : World) (hs : s.size ≤ maxLen) :
    Calls Try.prog 8 #[.string s] w fun e w' => e = .returned (.string (cutS 130 s)) ∧ w = w' := by
  unfold maxLen at hs
  by_cases h : 130 < s.size
  · rw [cut_pos h]
    go_enter Try.func8, Try.ntmps8
    go_wp2
    go_ret
    exact ⟨rfl, rfl⟩
  · rw [cut_neg h]
    go_enter Try.func8, Try.ntmps8
    go_wp2
    go_ret
    exact ⟨rfl, rfl⟩
set_option maxHeartbeats 800000 in
theorem whole_any (s : ByteArray) (w : World) (hs : s.size ≤ maxLen) :
    Calls Try.prog 17 #[.string s] w fun e w' => e = .returned (.string (wholeS s)) ∧ w = w' := by
  unfold maxLen at hs
  by_cases h : 128 < s.size
  · have hz : (s.extract 0 128).size = 128 := by rw [ByteArray.size_extract]; omega
    have hz0 := zeros_size 0
    have HC := Lib.hid (cut_pos h)
    go_enter Try.func17, Try.ntmps17
    go_wp2_with fail
    refine (zeros_any 0 _ (by omega)).mono ?_
    rintro e w' ⟨rfl, rfl⟩
    go_wp2
    go_ret
    exact ⟨ret_str (by unfold wholeS; rw [HC.out, hz]), rfl⟩
  · have HC := Lib.hid (cut_neg h)
    have hz0 := zeros_size (128 - s.size)
    go_enter Try.func17, Try.ntmps17
    go_wp2_with fail
    rw [show (128 : Int) - (s.size : Int) = ((128 - s.size : Nat) : Int) by omega]
    refine (zeros_any _ _ (by omega)).mono ?_
    rintro e w' ⟨rfl, rfl⟩
    go_wp2
    go_ret
    exact ⟨ret_str (by unfold wholeS; rw [HC.out]), rfl⟩

/-- a generation and a number, from any -/
def gS (g : Int) : Int := 1 + g.tmod 250 % 250
def nS (n : Int) : Int := n.tmod 65 % 65
theorem gS_bd (g : Int) : 1 ≤ gS g ∧ gS g ≤ 250 := by unfold gS; omega
theorem nS_bd (n : Int) : 0 ≤ nS n ∧ nS n ≤ 64 := by unfold nS; omega
theorem tmod_bd (a : Int) (L : Int) (h : 0 < L) : -L < a.tmod L ∧ a.tmod L < L := by
  have h1 := Int.tmod_lt_of_pos a h
  have h2 := Int.lt_tmod_of_pos a h
  omega
theorem nS_again (n : Int) : nS (nS n) = nS n := by
  have b := nS_bd n
  have e : (nS n).tmod 65 = nS n % 65 := Int.tmod_eq_emod_of_nonneg b.1
  show (nS n).tmod 65 % 65 = nS n
  rw [e]
  omega
theorem fits_any (g n : Int) (p : ByteArray) : Fits (gS g) (nS n) (cutS 96 p) :=
  ⟨(stamp_iff _ _).2 ⟨(gS_bd g).1, (gS_bd g).2, (nS_bd n).1, (nS_bd n).2⟩, cut_size 96 p⟩
theorem ret_four {a b : ByteArray} {x y x' y' : Int} {u v : Bool} (h : a = b) (h1 : x = x') (h2 : y = y') (h3 : u = v) : Ending.returned (.tuple #[.string a, .int .i64 x, .int .i64 y, .bool u]) = .returned (.tuple #[.string b, .int .i64 x', .int .i64 y', .bool v]) := by rw [h, h1, h2, h3]
set_option maxHeartbeats 1600000 in
theorem stamped_any (g n : Int) (p : ByteArray) (w : World) (hp : p.size ≤ maxLen) :
    Calls Try.prog 15 #[.int .i64 g, .int .i64 n, .string p] w fun e w' => e = .returned (.tuple #[.string (sealS (gS g) (nS n) (cutS 96 p)), .int .i64 (gS g), .int .i64 (nS n), .bool true]) ∧ Below w.heap.size w w' := by
  unfold maxLen at hp
  obtain ⟨a1, a2⟩ := tmod_bd g 250 (by omega)
  obtain ⟨b1, b2⟩ := tmod_bd n 65 (by omega)
  have F := Lib.hid (fits_any g n p)
  by_cases h : 96 < p.size
  · have HC := Lib.hid (cut_pos h)
    go_enter Try.func15, Try.ntmps15
    go_wp2_with fail
    rw [show (1 + g.tmod 250 % 250) = gS g from rfl, show (n.tmod 65 % 65) = nS n from rfl, ← HC.out]
    refine (seal_any _ _ _ _ (by have := cut_size 96 p; unfold maxLen; omega)).mono ?_
    rintro e w1 ⟨rfl, hB⟩
    rw [sealE_ok F.out.stamp F.out.size, sealR_ok F.out.stamp F.out.size]
    have hz := F.out.len
    go_wp2_with fail
    ((try simp only [Exit.inBlock, Exit.then]); refine bodyPost_ret (results_tmp4 rfl _ _ _) rfl ?_)
    exact ⟨ret_four rfl rfl rfl rfl, hB⟩
  · have HC := Lib.hid (cut_neg h)
    go_enter Try.func15, Try.ntmps15
    go_wp2_with fail
    rw [show (1 + g.tmod 250 % 250) = gS g from rfl, show (n.tmod 65 % 65) = nS n from rfl]
    refine (seal_any _ _ _ _ (by unfold maxLen; omega)).mono ?_
    rintro e w1 ⟨rfl, hB⟩
    have F' := F.out
    rw [HC.out] at F'
    rw [sealE_ok F'.stamp F'.size, sealR_ok F'.stamp F'.size]
    have hz := F'.len
    go_wp2_with fail
    ((try simp only [Exit.inBlock, Exit.then]); refine bodyPost_ret (results_tmp4 rfl _ _ _) rfl ?_)
    exact ⟨ret_four (by rw [HC.out]) rfl rfl rfl, hB⟩
theorem abc_fits : Fits 7 3 ⟨#[97, 98, 99]⟩ := ⟨by decide, by decide⟩
set_option maxHeartbeats 1600000 in
theorem alive_any (w : World) :
    Calls Try.prog 12 #[] w fun e w' => e = .returned (.bool true) ∧ Below w.heap.size w w' := by
  have hz := abc_fits.len
  go_enter Try.func12, Try.ntmps12
  go_wp2_with fail
  refine (seal_any _ _ _ _ (by unfold maxLen; decide)).mono ?_
  rintro e w1 ⟨rfl, hB⟩
  rw [sealE_ok abc_fits.stamp abc_fits.size, sealR_ok abc_fits.stamp abc_fits.size]
  go_wp2_with fail
  refine (open_any _ _ (by rw [hz]; unfold maxLen; omega)).mono ?_
  rintro e w2 ⟨rfl, hB2⟩
  rw [abc_fits.told]
  go_wp2_with fail
  go_ret
  exact ⟨rfl, hB.trans (hB2.mono hB.size)⟩
end Go.Proofs.Ytmpdfpknjkaabaa
