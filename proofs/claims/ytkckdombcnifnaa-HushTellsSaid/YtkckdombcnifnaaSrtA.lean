/-
  Hushes sorted as they begin.
-/
import Derived.Test.YtkckdombcnifnaaHshF
import Derived.Test.YtkckdombcnifnaaLays
namespace Go.Proofs.Ytkckdombcnifnaa
open Go.RowKit Go.Shelf Go.Lib Go.Sort
set_option linter.unusedVariables false

set_option maxRecDepth 100000 in
set_option maxHeartbeats 400000 in
theorem nan_any (x : Int) (w : World) :
    Calls Try.prog 73 #[.int .i64 x] w fun e w' => e = .returned (.bool false) ∧ w = w' := by
  go_enter Try.func73, Try.ntmps73
  go_wp2_with fail
  go_ret
  exact ⟨retB (by simp), rfl⟩
set_option maxRecDepth 100000 in
set_option maxHeartbeats 800000 in
theorem cmpI_any (x y : Int) (w : World) :
    Calls Try.prog 50 #[.int .i64 x, .int .i64 y] w fun e w' => e = .returned (.int .i64 (compareInt x y)) ∧ w = w' := by
  have HC : Hid (compareInt x y = if x < y then -1 else if x > y then 1 else 0) := rfl
  have H1 := fun x w => nan_any x w
  by_cases h1 : x < y
  · go_enter Try.func50, Try.ntmps50
    go_wp2_with (go_at_call 73; refine (H1 _ _).mono ?_; rintro e w' ⟨rfl, rfl⟩)
    go_ret
    exact ⟨retI (by rw [HC.out, if_pos (by omega)]), rfl⟩
  · by_cases h2 : y < x
    · go_enter Try.func50, Try.ntmps50
      go_wp2_with (go_at_call 73; refine (H1 _ _).mono ?_; rintro e w' ⟨rfl, rfl⟩)
      go_ret
      exact ⟨retI (by rw [HC.out, if_neg (by omega), if_pos (by omega)]), rfl⟩
    · go_enter Try.func50, Try.ntmps50
      go_wp2_with (go_at_call 73; refine (H1 _ _).mono ?_; rintro e w' ⟨rfl, rfl⟩)
      go_ret
      exact ⟨retI (by rw [HC.out, if_neg (by omega), if_neg (by omega)]), rfl⟩
def cmpH (a b : H5) : Int := compareInt a.f b.f
theorem ltH (x y : H5) : ltOf cmpH x y = decide (x.f < y.f) := by
  unfold ltOf cmpH compareInt
  by_cases h1 : x.f < y.f
  · simp [h1]
  · by_cases h2 : y.f < x.f <;> simp [h1, h2]
theorem swoH : SWO (ltOf cmpH) where
  irrefl x := by rw [ltH]; simp
  trans x y z h1 h2 := by rw [ltH] at *; simp at *; omega
  ntrans x y z h1 h2 := by rw [ltH] at *; simp at *; omega
set_option maxRecDepth 100000 in
set_option maxHeartbeats 1600000 in
theorem byFrom_any (x y : H5) (W : World) :
    Calls Try.prog 32 #[aggH x, aggH y] W fun e w' => e = .returned (.int .i64 (cmpH x y)) ∧ ∃ q os', w' = grow (W.drewN q) os' := by
  have HT := fun W => cmpI_any x.f y.f W
  have HC : Hid (compareInt x.f y.f = cmpH x y) := rfl
  generalize compareInt x.f y.f = r at *
  obtain ⟨f, t, pa, n, c, ms⟩ := x
  obtain ⟨f', t', pa', n', c', ms'⟩ := y
  dsimp only [aggH, vH] at *
  go_enter Try.func32, Try.ntmps32
  go_wp2_with fail
  refine (HT _).mono ?_
  rintro e w' ⟨rfl, rfl⟩
  go_wp2_with fail
  go_ret
  refine ⟨retI HC.out, 0, #[.cells #[.int .i64 f, .int .i64 t, .slice pa n c] 25] ++ #[.cells #[.int .i64 f', .int .i64 t', .slice pa' n' c'] 25], ?_⟩
  rw [alloc_eq_grow, alloc_eq_grow, grow_grow]
  rfl
theorem cmpLaysH (blk off size : Nat) (w : World) : CmpLays Try.prog 32 #[] cH 3 cmpH blk off size w :=
  fun _ _ _ _ x y => byFrom_any x y _
theorem enter_byFrom : ∀ args w, (callFunc 32 args).run Try.prog w = .ok (.enter 32 args) w := enters_of Try.func32 (by kernel_rfl) rfl
theorem holdsH {w : World} {base g cap n : Nat} {l : List H5} (hl : l.length = n) (h : w.ownsRow base 25 3 (.slice (some ⟨g, 0, none⟩) n cap) n (cellsH l)) (hn : 0 < n) : HoldsK cH 3 w g 0 l.toArray := by
  obtain ⟨_, e, _, _, hfz⟩ := frozenH h hn
  cases e
  obtain ⟨_, _, e, hH, _⟩ := Hs.of_own hl h
  cases e
  intro t ht
  rw [size_flatK, List.size_toArray] at ht
  rw [get_flatK _ _ _ _ (by simpa using ht)]
  have hi : t / 3 < l.length := by omega
  obtain ⟨_, _, e, h1, h2, h3⟩ := hH.cell (t / 3) (by omega)
  cases e
  have e : (l.toArray[t / 3]! : H5) = l.getD (t / 3) zH := by
    rw [getD_H _ _ hi, getElem!_pos _ _ (by simpa using hi)]
    simp
  rw [e]
  refine ⟨?_, hfz _⟩
  rcases (show t % 3 = 0 ∨ t % 3 = 1 ∨ t % 3 = 2 by omega) with h0 | h0 | h0
  · rw [show 0 + t / 3 * 3 = 0 + t from by omega] at h1
    rw [h0]
    exact h1
  · rw [show 0 + t / 3 * 3 + 1 = 0 + t from by omega] at h2
    rw [h0]
    exact h2
  · rw [show 0 + t / 3 * 3 + 2 = 0 + t from by omega] at h3
    rw [h0]
    exact h3
theorem grownBy_sortH {w : World} {g off n : Nat} {os : Array Obj} (d : Array H5) (hg : g < w.heap.size) : w.grownBy (sortWorldK cH 3 w g off n d os) (some g) := by
  refine ⟨rfl, rfl, rfl, ?_, fun i hi hne => ?_⟩
  · simp [sortWorldK, grow, putRowK]
  · unfold sortWorldK
    rw [heap_grow_old _ _ (by simpa [putRowK] using hi)]
    have : g ≠ i := fun e => hne (by rw [e])
    simp [putRowK, putRow, mapBlock, Sort.ahead, Array.getElem?_modify, this]
theorem sortedH_at {w : World} {blk cap n : Nat} {l : List H5} {d : Array H5} {os : Array Obj} (hH : HoldsK cH 3 w blk 0 l.toArray) (hblk : blk < w.heap.size) (hcap : l.length ≤ cap) (hd : d.size = l.length) :
    Hs (sortWorldK cH 3 w blk 0 n d os) (some ⟨blk, 0, none⟩) l.length cap d.toList := by
  have h1 : HoldsK cH 3 (sortWorldK cH 3 w blk 0 n d os) blk 0 d := holdsK_sortWorldK_c cH 3 w blk 0 l.toArray d n os hH hblk (by simpa using hd)
  refine ⟨by simpa using hd, hcap, fun i hi => ⟨blk, 0, rfl, ?_⟩⟩
  have e : (d[i]! : H5) = d.toList.getD i zH := by
    rw [getD_H _ _ (by simpa using (by omega : i < d.size)), getElem!_pos _ _ (by omega)]
    simp
  have c0 := (h1.cell (i := i) (c := 0) (by omega) (by omega)).1
  have c1 := (h1.cell (i := i) (c := 1) (by omega) (by omega)).1
  have c2 := (h1.cell (i := i) (c := 2) (by omega) (by omega)).1
  rw [e] at c0 c1 c2
  exact ⟨c0, c1, c2⟩
set_option maxHeartbeats 1600000 in
/-- as they begin, in a row of one's own -/
theorem sortH_any (base : Nat) (v : Value) (n : Nat) (l : List H5) (w : World) (hl : l.length = n) (h : w.ownsRow base 25 3 v n (cellsH l)) (hb : base ≤ w.heap.size) (hn : n ≤ 1000000) :
    Calls Try.prog 31 #[v, .func (.func 32) #[] #[]] w fun e w' => e = .returned (.tuple #[]) ∧ (∃ oa cap m, v = .slice oa n cap ∧ Hs w' oa n cap m ∧ m.Perm l ∧ (m.map h3).Pairwise fun x y => x.1 ≤ y.1) ∧ Below base w w' := by
  obtain ⟨oa, cap, rfl, hH, hm⟩ := Hs.of_own hl h
  by_cases h0 : 0 < n
  · obtain ⟨g, rfl, hbg, hgl, hfz⟩ := frozenH h h0
    have hK := holdsH hl h h0
    have hcon := AnyQ.slices_SortFunc laySort 3 Try.isAgg25 Try.sizeOf25 cH (fun _ => rfl) cH_one cmpH swoH 32 #[] g 0 cap l.toArray w enter_byFrom (cmpLaysH g 0 _ w) hK hgl (by simp; omega)
    change Calls Try.prog 31 _ _ _ at hcon
    rw [List.size_toArray, hl] at hcon
    refine hcon.mono ?_
    rintro e w' ⟨rfl, d, q, os, hp, hs, rfl⟩
    have hds : d.size = l.length := by have := hp.1; simpa using this
    refine ⟨rfl, ⟨_, _, d.toList, rfl, ?_, ?_, ?_⟩, (Below.refl base w).grown (grownBy_sortH d hgl) hb (fun j e => by cases e; exact hbg)⟩
    · have := sortedH_at (n := q) (os := os) hK hgl (show l.length ≤ cap by have := hH.room; omega) hds
      rw [hl] at this
      exact this
    · have := hp.2.2
      rw [Array.extract_eq_self_of_le (by omega), Array.extract_eq_self_of_le (by simp; omega)] at this
      simpa using this
    · rw [List.pairwise_map, List.pairwise_iff_getElem]
      intro i j hi hj hij
      have := hs i j (Nat.zero_le _) hij (by simpa [hds, hl] using hj)
      rw [ltH, getElem!_pos d j (by simpa using hj), getElem!_pos d i (by simpa using hi)] at this
      simp only [decide_eq_false_iff_not] at this
      simp only [Array.getElem_toList]
      show (h3 d[i]).1 ≤ (h3 d[j]).1
      unfold h3
      dsimp only
      omega
  · obtain rfl : n = 0 := by omega
    obtain rfl : l = [] := List.eq_nil_of_length_eq_zero hl
    have hcon := AnyF.slices_SortFunc_none laySort oa cap (.func (.func 32) #[] #[]) w
    change Calls Try.prog 31 _ _ _ at hcon
    refine hcon.mono ?_
    rintro e w' ⟨rfl, rfl⟩
    exact ⟨rfl, ⟨_, _, [], rfl, hH, List.Perm.refl _, List.Pairwise.nil⟩, Below.refl _ _⟩
end Go.Proofs.Ytkckdombcnifnaa
