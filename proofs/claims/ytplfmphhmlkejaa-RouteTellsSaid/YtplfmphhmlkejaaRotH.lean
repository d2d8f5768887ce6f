/-
  The law's own: the second route is chosen, and the first one's first receiver is the second.
-/
import Derived.Test.YtplfmphhmlkejaaRotG
namespace Go.Proofs.Ytplfmphhmlkejaa
open Go.RowKit Go.Shelf
set_option linter.unusedVariables false

def lUs : List L2 := [(⟨#[122]⟩, ⟨#[117, 115]⟩)]
theorem choose_alive : chooseF twoC lUs = (1, 0) := by decide +kernel
theorem rcv_alive : rcvF twoC 0 0 = (1, 0) := by decide +kernel
set_option maxRecDepth 100000 in
set_option maxHeartbeats 6400000 in
theorem alive_any (w : World) :
    Calls Try.prog 11 #[] w fun e w' => e = .returned (.bool true) ∧ Below w.heap.size w w' := by
  have HT := fun w => two_any w
  go_enter Try.func11, Try.ntmps11
  go_wp2_with fail
  refine (HT _).mono ?_
  rintro e w1 ⟨⟨o1, o2, rfl, hC⟩, B1⟩
  have BL := below_alloc w1 (.cells #[.string ⟨#[122]⟩, .string ⟨#[117, 115]⟩] 55)
  have hL : Ls (w1.alloc (.cells #[.string ⟨#[122]⟩, .string ⟨#[117, 115]⟩] 55)) (some ⟨w1.heap.size, 0, none⟩) 1 1 lUs := by
    refine ⟨rfl, Nat.le_refl _, fun i hi => ⟨w1.heap.size, 0, rfl, ?_⟩⟩
    obtain rfl : i = 0 := by omega
    simp [lUs]
  have HCh := choose_any o1 2 2 o2 2 2 twoC _ 1 1 lUs _ (hC.below BL (Nat.le_refl _)) hL (by decide)
  unfold ChooseOut at HCh
  rw [choose_alive] at HCh
  have B2 := B1.trans (BL.mono B1.size)
  clear hC hL B1 BL
  go_wp2_with fail
  refine HCh.mono ?_
  rintro e w2 ⟨rfl, B3⟩
  have B4 := B2.trans (B3.mono B2.size)
  clear B2 B3 HCh
  go_wp2_with fail
  refine (HT _).mono ?_
  rintro e w3 ⟨⟨o3, o4, rfl, hC⟩, B5⟩
  have HR := receiver_any o3 2 2 o4 2 2 twoC 0 0 _ hC
  unfold PlaceOut at HR
  rw [rcv_alive] at HR
  have B6 := B4.trans (B5.mono B4.size)
  clear hC B4 B5 HT
  go_wp2_with fail
  refine HR.mono ?_
  rintro e w4 ⟨rfl, B7⟩
  go_wp2_with fail
  go_ret
  exact ⟨rfl, B6.trans (B7.mono B6.size)⟩
end Go.Proofs.Ytplfmphhmlkejaa
