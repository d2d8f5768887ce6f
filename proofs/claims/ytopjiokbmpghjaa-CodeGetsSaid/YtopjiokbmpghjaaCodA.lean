/-
  The law's own: six bytes.
-/
import Derived.Test.YtopjiokbmpghjaaCodC
import Derived.Test.YtopjiokbmpghjaaCodG
namespace Go.Proofs.Ytopjiokbmpghjaa
open Go.RowKit Go.Shelf
set_option linter.unusedVariables false
set_option linter.unusedSimpArgs false

def gOne : Rc := ⟨2, zD, [(⟨#[97]⟩, ⟨#[120]⟩)], 0, 0, []⟩
def bOne : List UInt8 := [2, 1, 1, 97, 1, 120]
theorem put_one : putV gOne = .tuple #[.string (tx bOne), .int .i64 0] := by
  have h1 : recR gOne = true := by decide +kernel
  have h2 : putL gOne = bOne := by decide +kernel
  rw [putV_yes h1, h2]
theorem got_one : gotB bOne = true := by decide +kernel
theorem getE_one : getE bOne = 0 := by unfold getE; rw [got_one]; rfl
theorem getV_one : getV bOne = gOne := by
  unfold getV
  rw [got_one]
  decide +kernel
theorem tx_one : tx bOne = ⟨#[2, 1, 1, 97, 1, 120]⟩ := by decide +kernel
set_option maxRecDepth 100000 in
set_option maxHeartbeats 3200000 in
theorem alive_any (w : World) :
    Calls Try.prog 11 #[] w fun e w' => e = .returned (.bool true) ∧ Below w.heap.size w w' := by
  have HG := fun w => cget_any bOne (by decide) w
  simp only [getE_one, getV_one, tx_one] at HG
  have HP := fun (w : World) h => cput_any none 0 0 (some ⟨w.heap.size, 0, none⟩) 1 1 none 0 0 gOne (w.alloc (.cells #[.string ⟨#[97]⟩, .string ⟨#[120]⟩] 57)) h
  simp only [put_one, tx_one] at HP
  have hR : RAt (w.alloc (.cells #[.string ⟨#[97]⟩, .string ⟨#[120]⟩] 57)) none 0 0 (some ⟨w.heap.size, 0, none⟩) 1 1 none 0 0 gOne := ⟨Ls.nil _ _ _, Ls.one w (⟨#[97]⟩, ⟨#[120]⟩), Ms.nil _ _ _, by omega, by omega, by omega⟩
  have HP1 := HP w hR
  have B0 := below_alloc w (.cells #[.string ⟨#[97]⟩, .string ⟨#[120]⟩] 57)
  clear HP hR
  go_enter Try.func11, Try.ntmps11
  go_wp2_with fail
  refine HP1.mono ?_
  rintro e w1 ⟨rfl, B1⟩
  go_wp2_with fail
  refine (HG _).mono ?_
  rintro e w2 ⟨⟨o1, n1, c1, o2, n2, c2, o3, n3, c3, rfl, hR⟩, B2⟩
  have hn : (1 : Nat) = n2 := hR.l.len
  have B3 := B0.trans (B1.mono B0.size)
  have B4 := B3.trans (B2.mono B3.size)
  have B5 := B4.alloc B4.size (.cells #[.int .i64 2, .slice o1 n1 c1, .int .i64 0, .int .i64 0, .int .i64 0, .int .i64 0, .int .i64 0, .slice o2 n2 c2, .int .i64 0, .int .i64 0, .slice o3 n3 c3] 29)
  subst hn
  go_wp2_with fail
  go_ret
  exact ⟨rfl, B5⟩
end Go.Proofs.Ytopjiokbmpghjaa
