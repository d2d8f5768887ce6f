/-
  The law's own witness: two labels, two matchers.
-/
import Derived.Test.YtbbbbkagoonklaaLabA
import Derived.Test.YtbbbbkagoonklaaLabS
namespace Go.Proofs.Ytbbbbkagoonklaa
open Go.RowKit Go.Shelf
set_option linter.unusedVariables false

abbrev zE : List L2 := [(⟨#[122]⟩, ⟨#[101, 117, 45, 49]⟩), (⟨#[97]⟩, ⟨#[100, 98]⟩)]
abbrev zF : List L2 := [(⟨#[97]⟩, ⟨#[100, 98]⟩), (⟨#[122]⟩, ⟨#[101, 117, 45, 49]⟩)]
abbrev mE : List M3 := [(2, ⟨#[122]⟩, ⟨#[101, 117]⟩), (1, ⟨#[97]⟩, ⟨#[119, 101, 98]⟩)]
theorem sortF_alive : sortF zE = (zF, 0) := by kernel_rfl
theorem allF_alive : allF mE zF = (true, 0) := by kernel_rfl
theorem Ls.two (w : World) (x y : L2) : Ls (w.alloc (.cells #[.string x.1, .string x.2, .string y.1, .string y.2] 41)) (some ⟨w.heap.size, 0, none⟩) 2 2 [x, y] := by
  refine ⟨rfl, Nat.le_refl _, fun i hi => ⟨w.heap.size, 0, rfl, ?_⟩⟩
  rcases (show i = 0 ∨ i = 1 by omega) with rfl | rfl <;> simp
theorem Ms.two (w : World) (x y : M3) : Ms (w.alloc (.cells #[.int .i64 x.1, .string x.2.1, .string x.2.2, .int .i64 y.1, .string y.2.1, .string y.2.2] 35)) (some ⟨w.heap.size, 0, none⟩) 2 2 [x, y] := by
  refine ⟨rfl, Nat.le_refl _, fun i hi => ⟨w.heap.size, 0, rfl, ?_⟩⟩
  rcases (show i = 0 ∨ i = 1 by omega) with rfl | rfl <;> simp
set_option maxRecDepth 100000 in
set_option maxHeartbeats 4000000 in
theorem alive_any (w : World) :
    Calls Try.prog 14 #[] w fun e w' => e = .returned (.bool true) ∧ Below w.heap.size w w' := by
  have HS := Lib.hid sortF_alive
  have HA := Lib.hid allF_alive
  have B1 := (Below.refl w.heap.size w).alloc (Nat.le_refl _) (.cells #[.string ⟨#[122]⟩, .string ⟨#[101, 117, 45, 49]⟩, .string ⟨#[97]⟩, .string ⟨#[100, 98]⟩] 41)
  have L1 := Ls.two w (⟨#[122]⟩, ⟨#[101, 117, 45, 49]⟩) (⟨#[97]⟩, ⟨#[100, 98]⟩)
  go_enter Try.func14, Try.ntmps14
  go_wp2_with fail
  refine (labSort_any _ 2 2 zE _ L1 (by omega)).mono ?_
  rintro e w2 ⟨⟨oa, n, cap, rfl, L2', hn⟩, B2⟩
  have B2' := B1.trans (B2.mono B1.size)
  rw [HS.out] at L2'
  obtain rfl : n = 2 := L2'.len.symm
  rw [HS.out]
  clear hn B2 L1 B1
  have B3 := B2'.alloc B2'.size (.cells #[.int .i64 2, .string ⟨#[122]⟩, .string ⟨#[101, 117]⟩, .int .i64 1, .string ⟨#[97]⟩, .string ⟨#[119, 101, 98]⟩] 35)
  have M3' := Ms.two w2 (2, ⟨#[122]⟩, ⟨#[101, 117]⟩) (1, ⟨#[97]⟩, ⟨#[119, 101, 98]⟩)
  have L3' := L2'.below ((Below.refl _ w2).alloc (Nat.le_refl _) (.cells #[.int .i64 2, .string ⟨#[122]⟩, .string ⟨#[101, 117]⟩, .int .i64 1, .string ⟨#[97]⟩, .string ⟨#[119, 101, 98]⟩] 35)) (Nat.le_refl _)
  dsimp only
  go_wp2_with fail
  refine (labAll_any _ 2 2 mE oa 2 cap zF _ M3' L3' (by omega) (by omega)).mono ?_
  rintro e w4 ⟨hO, B4⟩
  change e = _ at hO
  rw [HA.out] at hO
  subst hO
  have L4 := L3'.below B4 (Nat.le_refl _)
  have B4' := B3.trans (B4.mono B3.size)
  obtain ⟨g, o, rfl, c0, c1⟩ := L4.cell 0 (by omega)
  simp only [Nat.zero_mul, Nat.add_zero, List.getD_cons_zero] at c0 c1
  have hr := L4.room
  clear L3' L2' M3' B4 B3 B2' L4
  dsimp only
  go_wp2_with fail
  refine bodyPost_ret (results_tmp rfl _ _ _) rfl ?_
  exact ⟨rfl, B4'⟩
end Go.Proofs.Ytbbbbkagoonklaa
