/-
  Dues: which one comes ahead: package due's own order of two.
-/
import Derived.Test.YteomenkojhppfaaDueM
import Derived.Test.YteomenkojhppfaaLays
import Derived.BigQuiet
import Derived.StillTailTactics
namespace Go.Proofs.Yteomenkojhppfaa
open Go.RowKit Go.Shelf Go.Lib Go.Sort
set_option linter.unusedVariables false

/-- -1, 0, 1: the first number that is not 0 -/
def orI (x y : Int) : Int := if x = 0 then y else x
def cmpD (a b : D2) : Int := orI (compareInt a.1 b.1) (compareInt a.2 b.2)
def aheadB (a b : D2) : Bool := decide (a.1 < b.1) || (decide (a.1 = b.1) && decide (a.2 < b.2))
theorem ltD (x y : D2) : ltOf cmpD x y = aheadB x y := by
  unfold ltOf cmpD orI compareInt aheadB
  by_cases h1 : x.1 < y.1
  · simp [h1]
  · by_cases h2 : y.1 < x.1
    · simp [h1, h2]; omega
    · by_cases h3 : x.2 < y.2
      · simp [h1, h2, h3]; omega
      · by_cases h4 : y.2 < x.2 <;> simp [h1, h2, h3, h4]
theorem swoD : SWO (ltOf cmpD) where
  irrefl x := by rw [ltD]; simp [aheadB]
  trans x y z h1 h2 := by rw [ltD] at *; simp [aheadB] at *; omega
  ntrans x y z h1 h2 := by rw [ltD] at *; simp [aheadB] at *; omega
theorem partsD (x y : D2) (h1 : ltOf cmpD x y = false) (h2 : ltOf cmpD y x = false) : x = y := by
  rw [ltD] at *
  simp [aheadB] at *
  exact Prod.ext (by omega) (by omega)

/-- a due as cells -/
def encD (x : D2) : List Value := [.int .i64 x.1, .int .i64 x.2]

set_option maxRecDepth 100000 in
set_option maxHeartbeats 1600000 in
theorem or_two (x y : Int) (g : Nat) (w : World) (h0 : w.cell? ⟨g, 0, none⟩ = some (.int .i64 x)) (h1 : w.cell? ⟨g, 1, none⟩ = some (.int .i64 y)) :
    Calls Try.prog 33 #[.slice (some ⟨g, 0, none⟩) 2 2] w fun e w' => e = .returned (.int .i64 (orI x y)) ∧ w' = w := by
  by_cases hx : x = 0
  · subst hx
    have HO : Hid (y = orI 0 y) := rfl
    by_cases hy : y = 0
    · subst hy
      go_enter Try.func33, Try.ntmps33
      go_wp2_with fail
      refine wp_loop_rounds 3 ?_
      rw [rounds_succ]
      go_wp2_with fail
      rw [rounds_succ]
      go_wp2_with fail
      rw [rounds_succ]
      go_wp2_with fail
      go_ret
      exact ⟨retI HO.out, rfl⟩
    · have hy1 : (y == 0) = false := by simp [hy]
      go_enter Try.func33, Try.ntmps33
      go_wp2_with fail
      refine wp_loop_rounds 3 ?_
      rw [rounds_succ]
      go_wp2_with fail
      rw [rounds_succ]
      go_wp2_with fail
      go_ret
      exact ⟨retI HO.out, rfl⟩
  · have hx1 : (x == 0) = false := by simp [hx]
    have HO : Hid (x = orI x y) := by show _ = _; unfold orI; simp [hx]
    go_enter Try.func33, Try.ntmps33
    go_wp2_with fail
    refine wp_loop_rounds 3 ?_
    rw [rounds_succ]
    go_wp2_with fail
    go_ret
    exact ⟨retI HO.out, rfl⟩

set_option maxRecDepth 100000 in
set_option maxHeartbeats 4000000 in
theorem cmp_any (a b : D2) (W : World) :
    Calls Try.prog 28 #[.agg #[.int .i64 a.1, .int .i64 a.2], .agg #[.int .i64 b.1, .int .i64 b.2]] W fun e w' => e = .returned (.int .i64 (cmpD a b)) ∧ ∃ q os', w' = grow (W.drewN q) os' := by
  obtain ⟨x, i⟩ := a
  obtain ⟨y, j⟩ := b
  have h1 := fun W' => AnyG.cmp_Compare_int layCompare x y W'
  have h2 := fun W' => AnyG.cmp_Compare_int layCompare i j W'
  change ∀ W', Calls Try.prog 34 _ _ _ at h1
  change ∀ W', Calls Try.prog 34 _ _ _ at h2
  have HC : Hid (orI (compareInt x y) (compareInt i j) = cmpD (x, i) (y, j)) := rfl
  dsimp only
  generalize compareInt x y = r at *
  generalize compareInt i j = s at *
  go_enter Try.func28, Try.ntmps28
  go_wp2_with fail
  obtain ⟨w1, hw1⟩ : ∃ w1, w1 = (W.alloc (.cells #[.int .i64 x, .int .i64 i] 24)).alloc (.cells #[.int .i64 y, .int .i64 j] 24) := ⟨_, rfl⟩
  have c0 : w1.cell? ⟨W.heap.size, 0, none⟩ = some (.int .i64 x) := by subst hw1; simp
  have c1 : w1.cell? ⟨W.heap.size, 1, none⟩ = some (.int .i64 i) := by subst hw1; simp
  have c2 : w1.cell? ⟨W.heap.size + 1, 0, none⟩ = some (.int .i64 y) := by subst hw1; simp
  have c3 : w1.cell? ⟨W.heap.size + 1, 1, none⟩ = some (.int .i64 j) := by subst hw1; simp
  rw [← hw1]
  have HW := Lib.hid hw1
  clear hw1
  have h3 := fun W' => or_two r s w1.heap.size W'
  refine wp_region_still_tail 10 (by kernel_rfl) (by kernel_rfl) ?_
  simp only [List.take_succ_cons, List.take_zero, List.drop_succ_cons, List.drop_zero]
  change wpStill _ _ (World.drew _) _ _ _
  still_step
  still_step
  still_step
  still_step
  still_call (h1 _)
  still_step
  still_step
  still_step
  still_step
  still_call (h2 _)
  refine wpStill_nil ?_
  change wpList _ _ _ _ _ (World.drew _)
  go_wp2_with fail
  refine (h3 _ (by simp) (by simp)).mono ?_
  rintro e w' ⟨rfl, rfl⟩
  go_wp2_with fail
  go_ret
  refine ⟨retI HC.out, 1, #[.cells #[.int .i64 x, .int .i64 i] 24] ++ (#[.cells #[.int .i64 y, .int .i64 j] 24] ++ #[.cells #[.int .i64 r, .int .i64 s] 3]), ?_⟩
  rw [HW.out, alloc_eq_grow, alloc_eq_grow, alloc_eq_grow]
  show grow (grow (grow (W.drewN 1) _) _) _ = _
  rw [grow_grow, grow_grow]
theorem cmpLaysD (blk off size : Nat) (w : World) : CmpLays Try.prog 28 #[] encD 2 cmpD blk off size w :=
  fun _ _ _ _ x y => cmp_any x y _

/-- dues in order -/
def sortD (l : List D2) : List D2 := l.mergeSort fun x y => !(ltOf cmpD) y x
set_option maxHeartbeats 1000000 in
theorem sort_any (blk off cap : Nat) (l : List D2) (w : World) (hH : HoldsK encD 2 w blk off l.toArray) (hblk : blk < w.heap.size) (hn : l.length ≤ 70) :
    Calls Try.prog 31 #[.slice (some ⟨blk, off, none⟩) l.length cap, .func (.func 28) #[] #[]] w fun e w' => e = .returned (.tuple #[]) ∧ ∃ n os, w' = sortWorldK encD 2 w blk off n (sortD l).toArray os := by
  have eg : ∀ args w, (callFunc 28 args).run Try.prog w = .ok (.enter 28 args) w := enters_of Try.func28 (by kernel_rfl) rfl
  have hcon := AnyQ.slices_SortFunc_total laySort 2 Try.isAgg24 Try.sizeOf24 encD (fun _ => rfl) (fun x v hv => by simp [encD] at hv; rcases hv with rfl | rfl <;> rfl) cmpD swoD 28 #[] blk off cap l.toArray w eg (cmpLaysD blk off _ w) hH hblk (by simp; omega) partsD
  change Calls Try.prog 31 _ _ _ at hcon
  rw [List.size_toArray] at hcon
  exact hcon
theorem sort_none (oa : Option Addr) (cap : Nat) (w : World) :
    Calls Try.prog 31 #[.slice oa 0 cap, .func (.func 28) #[] #[]] w fun e w' => e = .returned (.tuple #[]) ∧ w' = w := by
  have hcon := AnyF.slices_SortFunc_none laySort oa cap (.func (.func 28) #[] #[]) w
  change Calls Try.prog 31 _ _ _ at hcon
  exact hcon
theorem holdsD {w : World} {blk off : Nat} {l : List D2} (h : ∀ i, i < l.length → (w.cell? ⟨blk, off + i * 2, none⟩ = some (.int .i64 (l.getD i (0, 0)).1) ∧ w.cell? ⟨blk, off + i * 2 + 1, none⟩ = some (.int .i64 (l.getD i (0, 0)).2)) ∧ w.frozen? ⟨blk, off + i * 2, none⟩ = false ∧ w.frozen? ⟨blk, off + i * 2 + 1, none⟩ = false) : HoldsK encD 2 w blk off l.toArray := by
  intro t ht
  rw [size_flatK, List.size_toArray] at ht
  rw [get_flatK _ _ _ _ (by simpa using ht)]
  have hi : t / 2 < l.length := by omega
  obtain ⟨⟨h1, h2⟩, h3, h4⟩ := h (t / 2) hi
  have e : (l.toArray[t / 2]! : D2) = l.getD (t / 2) (0, 0) := by
    rw [getD_d _ _ hi, getElem!_pos _ _ (by simpa using hi)]
    simp
  rw [e]
  rcases Nat.mod_two_eq_zero_or_one t with h0 | h0
  · rw [show off + t / 2 * 2 = off + t from by omega] at h1 h3
    rw [h0]
    exact ⟨h1, h3⟩
  · rw [show off + t / 2 * 2 + 1 = off + t from by omega] at h2 h4
    rw [h0]
    exact ⟨h2, h4⟩
theorem grownBy_sortD {w : World} {g off n : Nat} {os : Array Obj} (l : List D2) (hg : g < w.heap.size) : w.grownBy (sortWorldK encD 2 w g off n l.toArray os) (some g) := by
  refine ⟨rfl, rfl, rfl, ?_, fun i hi hne => ?_⟩
  · simp [sortWorldK, grow, putRowK]
  · unfold sortWorldK
    rw [heap_grow_old _ _ (by simpa [putRowK] using hi)]
    have : g ≠ i := fun e => hne (by rw [e])
    simp [putRowK, putRow, mapBlock, Sort.ahead, Array.getElem?_modify, this]
theorem sortD_length (l : List D2) : (sortD l).length = l.length := List.length_mergeSort ..
/-- what lies behind the sort -/
theorem sorted_at {w : World} {blk off cap n : Nat} {l : List D2} {os : Array Obj} (hH : HoldsK encD 2 w blk off l.toArray) (hblk : blk < w.heap.size) (hcap : l.length ≤ cap) :
    Ds (sortWorldK encD 2 w blk off n (sortD l).toArray os) (some ⟨blk, off, none⟩) l.length cap (sortD l) ∧ ∀ B, B ≤ blk → Below B w (sortWorldK encD 2 w blk off n (sortD l).toArray os) := by
  have h1 : HoldsK encD 2 (sortWorldK encD 2 w blk off n (sortD l).toArray os) blk off (sortD l).toArray := by
    unfold sortWorldK
    refine holdsK_grow _ _ _ _ _ _ _ ?_ (holdsK_putRowK encD 2 (Sort.ahead w n) blk off l.toArray _ (holdsK_ahead _ _ _ _ _ _ _ hH) (by simp [sortD_length]))
    simpa [putRowK, Sort.ahead] using hblk
  refine ⟨⟨sortD_length l, hcap, fun i hi => ⟨blk, off, rfl, ?_, ?_⟩⟩, fun B hB => ?_⟩
  · have := (h1.cell (i := i) (c := 0) (by simpa [sortD_length] using hi) (by omega)).1
    rw [Nat.add_zero] at this
    rw [this, getD_d _ _ (by rw [sortD_length]; exact hi), getElem!_pos (sortD l).toArray i (by simpa [sortD_length] using hi)]
    simp [encD]
  · have := (h1.cell (i := i) (c := 1) (by simpa [sortD_length] using hi) (by omega)).1
    rw [this, getD_d _ _ (by rw [sortD_length]; exact hi), getElem!_pos (sortD l).toArray i (by simpa [sortD_length] using hi)]
    simp [encD]
  · exact (Below.refl B w).grown (grownBy_sortD (sortD l) hblk) (by omega) (fun j hj => by cases hj; exact hB)
end Go.Proofs.Yteomenkojhppfaa
