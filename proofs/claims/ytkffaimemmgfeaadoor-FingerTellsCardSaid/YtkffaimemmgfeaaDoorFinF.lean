/-
  The law's own: a text's first bytes, one byte's digits.
-/
import Derived.Test.YtkffaimemmgfeaaDoorFinE
namespace Go.Proofs.YtkffaimemmgfeaaDoor
open Go.RowKit Go.Shelf Fnv
set_option linter.unusedVariables false

/-- a text's first bytes -/
def cutF (s : ByteArray) : ByteArray := s.extract 0 (min s.size 300)
theorem cutF_size (s : ByteArray) : (cutF s).size ≤ 300 := by unfold cutF; rw [ByteArray.size_extract]; omega
theorem all_of (s : ByteArray) : s.extract 0 s.size = s := by apply ByteArray.ext; simp
set_option maxHeartbeats 400000 in
theorem fewF_any (s : ByteArray) (w : World) (hs : s.size ≤ maxLen) :
    Calls Tryd.prog 5 #[.string s] w fun e w' => e = .returned (.string (cutF s)) ∧ w = w' := by
  unfold maxLen at hs
  have HC : Hid (cutF s = s.extract 0 (min s.size 300)) := rfl
  by_cases h : 300 < s.size
  · have hm : min s.size 300 = 300 := by omega
    rw [hm] at HC
    clear hm
    go_enter Tryd.func5, Tryd.ntmps5
    go_wp2_with fail
    go_ret
    exact ⟨retS HC.out.symm, rfl⟩
  · have hm : min s.size 300 = s.size := by omega
    rw [hm, all_of] at HC
    clear hm
    go_enter Tryd.func5, Tryd.ntmps5
    go_wp2_with fail
    go_ret
    exact ⟨retS HC.out.symm, rfl⟩
theorem alive_is : fnR firstN (bl ⟨#[97]⟩) = 12638187200555641996 := by
  rw [show bl ⟨#[97]⟩ = [97] from rfl]
  kernel_rfl
def aliveS : ByteArray := ⟨#[97, 102, 54, 51, 100, 99, 52, 99, 56, 54, 48, 49, 101, 99, 56, 99]⟩
theorem alive_hex : tx (hexL 12638187200555641996) = aliveS := by kernel_rfl
set_option maxRecDepth 100000 in
set_option maxHeartbeats 800000 in
theorem aliveF_any (w : World) (hT : w.cell? ⟨3, 15, none⟩ = some (.int .u8 4)) :
    Calls Tryd.prog 11 #[] w fun e w' => e = .returned (.bool true) ∧ Below w.heap.size w w' := by
  have HM := more_any firstN ⟨#[97]⟩ w (by decide) first_lt
  obtain ⟨x, hx⟩ : ∃ x, fnR firstN (bl ⟨#[97]⟩) = x := ⟨_, rfl⟩
  have hxl : x < M64 := by rw [← hx]; exact fnR_lt first_lt
  have HX : Hid (tx (hexL x) = aliveS) := by show _ = _; rw [← hx, alive_is, alive_hex]
  rw [hx] at HM
  clear hx
  go_enter Tryd.func11, Tryd.ntmps11
  go_wp2_with fail
  refine HM.mono ?_
  rintro e w1 ⟨rfl, B1⟩
  have HH := hex_any x w1 hxl ((B1.cell (World.block_lt_of_cell? _ _ hT)).trans hT)
  rw [HX.out] at HH
  clear HM hT
  go_wp2_with fail
  refine HH.mono ?_
  rintro e w2 ⟨rfl, B2⟩
  go_wp2_with fail
  go_ret
  exact ⟨retB (by unfold aliveS; simp), B1.trans (B2.mono B1.size)⟩
end Go.Proofs.YtkffaimemmgfeaaDoor
