/-
  The law's own: two hushes, one behind the other.
-/
import Derived.Test.YtkckdombcnifnaaLawI
import Derived.Test.YtkckdombcnifnaaHshK
import Derived.Test.YtkckdombcnifnaaHshH
namespace Go.Proofs.Ytkckdombcnifnaa
open Go.RowKit Go.Shelf
set_option linter.unusedVariables false

def msA : List M3 := [(0, ⟨#[97]⟩, ⟨#[120]⟩)]
def lsA : List L2 := [(⟨#[97]⟩, ⟨#[120]⟩)]
theorem add_alive : addF [(2, 5, msA)] (5, 9, msA) 3 = 0 := by decide +kernel
theorem kept_alive : keptT [(2, 5, msA)] 3 ++ [(5, 9, msA)] = [(2, 5, msA), (5, 9, msA)] := by rfl
theorem may_alive : mayT [(2, 5, msA), (5, 9, msA)] lsA 3 = true := by decide +kernel
theorem asks_alive : msA.all (mB lsA) = true := by decide +kernel
theorem go_alive : goT 3 [(2, 5, msA), (5, 9, msA)] = 9 := by rfl
theorem free_alive : FreeT [(2, 5, msA), (5, 9, msA)] lsA 3 9 := by
  have := goT_free (l := [(2, 5, msA), (5, 9, msA)]) (m := [(2, 5, msA), (5, 9, msA)]) (L := lsA) 3 (by simp) (fun x => by
    constructor
    · intro hx
      refine ⟨hx, ?_⟩
      simp only [List.mem_cons, List.not_mem_nil, or_false] at hx
      rcases hx with rfl | rfl <;> exact asks_alive
    · exact fun h => h.1)
  rwa [go_alive] at this
theorem free_is {e : Ending} (h : FreeOut [(2, 5, msA), (5, 9, msA)] lsA 3 e) : e = .returned (.tuple #[.int .i64 9, .int .i64 0]) := by
  rcases h with ⟨h, _⟩ | ⟨_, t, ht, h⟩
  · rw [may_alive] at h; cases h
  · rw [h, ht.unique free_alive]
set_option maxRecDepth 100000 in
set_option maxHeartbeats 6400000 in
theorem alive_any (w : World) :
    Calls Try.prog 15 #[] w fun e w' => e = .returned (.bool true) ∧ Below w.heap.size w w' := by
  have hM := Ms.one w (0, ⟨#[97]⟩, ⟨#[120]⟩)
  have B1 := below_alloc w (.cells #[.int .i64 0, .string ⟨#[97]⟩, .string ⟨#[120]⟩] 51)
  have hM2 := hM.below (below_alloc _ (.cells #[.int .i64 2, .int .i64 5, .slice (some ⟨w.heap.size, 0, none⟩) 1 1] 25)) (Nat.le_refl _)
  have B2 := B1.alloc B1.size (.cells #[.int .i64 2, .int .i64 5, .slice (some ⟨w.heap.size, 0, none⟩) 1 1] 25)
  have hH := Hs.one (w.alloc (.cells #[.int .i64 0, .string ⟨#[97]⟩, .string ⟨#[120]⟩] 51)) ⟨2, 5, some ⟨w.heap.size, 0, none⟩, 1, 1, msA⟩
  dsimp only [vH] at hM hM2 hH
  have HAdd := add_any _ 1 1 [⟨2, 5, some ⟨w.heap.size, 0, none⟩, 1, 1, msA⟩] ⟨5, 9, some ⟨w.heap.size, 0, none⟩, 1, 1, msA⟩ 3 _ hH (Lk.one hM2 (by dsimp only; omega)) (by decide) hM2 (by dsimp only; omega)
  rw [show (w.alloc (.cells #[.int .i64 0, .string ⟨#[97]⟩, .string ⟨#[120]⟩] 51)).heap.size = w.heap.size + 1 by simp] at HAdd
  dsimp only [aggH, vH] at HAdd
  clear hM hM2 hH B1
  go_enter Try.func15, Try.ntmps15
  go_wp2_with fail
  refine HAdd.mono ?_
  rintro e w3 ⟨h3', B3⟩
  have HO : Hid (∃ oa cap rs, e = .returned (.tuple #[.slice oa 2 cap, .int .i64 0]) ∧ Hs w3 oa 2 cap rs ∧ Lk w3 rs ∧ rs.map h3 = [(2, 5, msA), (5, 9, msA)]) := by
    rcases h3' with ⟨q, _⟩ | ⟨_, v, e1, oa, cap, rs, e2, q1, q2, q3, _⟩
    · exact absurd add_alive q
    · have q4 : rs.map h3 = [(2, 5, msA), (5, 9, msA)] := q3
      have q5 : rs.length = 2 := by have := congrArg List.length q4; simpa using this
      rw [q5] at e2 q1
      exact ⟨oa, cap, rs, by rw [e1, e2], q1, q2, q4⟩
  obtain ⟨oa, cap, rs, rfl, q1, q2, q3⟩ := HO.out
  have B4 := B2.trans (B3.mono B2.size)
  clear h3' HO HAdd B3 B2
  have BL := below_alloc w3 (.cells #[.string ⟨#[97]⟩, .string ⟨#[120]⟩] 59)
  have hL : Ls (w3.alloc (.cells #[.string ⟨#[97]⟩, .string ⟨#[120]⟩] 59)) (some ⟨w3.heap.size, 0, none⟩) 1 1 lsA := by
    refine ⟨rfl, Nat.le_refl _, fun i hi => ⟨w3.heap.size, 0, rfl, ?_⟩⟩
    obtain rfl : i = 0 := by omega
    simp [lsA]
  have HFree := free_any oa 2 cap rs _ 1 1 lsA 3 _ (q1.below BL (Nat.le_refl _)) (q2.below BL (Nat.le_refl _)) (by decide) hL (by decide)
  rw [q3] at HFree
  have B5 := B4.trans (BL.mono B4.size)
  clear q1 q2 q3 hL BL B4
  go_wp2_with fail
  refine HFree.mono ?_
  rintro e w5 ⟨hf, B6⟩
  obtain rfl := free_is hf
  clear hf HFree
  go_wp2_with fail
  go_ret
  exact ⟨rfl, B5.trans (B6.mono B5.size)⟩
end Go.Proofs.Ytkckdombcnifnaa
