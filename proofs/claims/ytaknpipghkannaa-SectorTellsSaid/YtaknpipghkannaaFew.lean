/-
  A disk's first sectors, each one's first bytes: the law's own cut of what it is handed.
-/
import Derived.Test.YtaknpipghkannaaNew
namespace Go.Proofs.Ytaknpipghkannaa
open Go.RowKit
set_option linter.unusedVariables false

/-- the texts ss lie at a slice that came in -/
structure Arg (w : World) (oa : Option Addr) (n cap : Nat) (ss : List ByteArray) : Prop where
  len : ss.length = n
  room : n ≤ cap
  most : cap ≤ maxLen
  each : ∀ i, i < n → (ss.getD i ByteArray.empty).size ≤ maxLen
  cell : ∀ i, i < n → ∃ b off, oa = some ⟨b, off, none⟩ ∧ w.cell? ⟨b, off + i, none⟩ = some (.string (ss.getD i ByteArray.empty))
/-- the law's own cut -/
def fewL (ss : List ByteArray) : List ByteArray := (ss.take 132).map (cutS 130)
theorem few_length (ss : List ByteArray) : (fewL ss).length = min 132 ss.length := by unfold fewL; rw [List.length_map, List.length_take]
theorem few_take (ss : List ByteArray) (k : Nat) (h : k < (fewL ss).length) : (fewL ss).take (k + 1) = (fewL ss).take k ++ [cutS 130 (ss.getD k ByteArray.empty)] := by
  have h' := few_length ss
  have e : (fewL ss)[k]? = some (cutS 130 (ss.getD k ByteArray.empty)) := by
    unfold fewL
    rw [List.getElem?_map, List.getElem?_take, if_pos (by omega), List.getD_eq_getElem?_getD, List.getElem?_eq_getElem (by omega)]
    rfl
  rw [List.take_succ_eq_append_getElem h]
  rw [List.getElem?_eq_getElem h] at e
  rw [Option.some.inj e]
theorem strCells_append (a b : List ByteArray) : strCells (a ++ b) = strCells a ++ strCells b := by unfold strCells; rw [List.map_append]
/-- what is told: a disk -/
def Told1 (e : Ending) (w' : World) (l : List ByteArray) : Prop :=
  ∃ oa n cap, e = .returned (.agg #[.slice oa n cap]) ∧ Rd w' oa n cap l
theorem Rd.of_own {w : World} {base : Nat} {v : Value} {n : Nat} {ss : List ByteArray} (hl : ss.length = n) (h : w.ownsRow base 9 1 v n (strCells ss)) :
    ∃ oa cap, v = .slice oa n cap ∧ Rd w oa n cap ss ∧ ∀ g, v.ownBlock = some g → base ≤ g := by
  rcases h.2 with ⟨rfl, rfl⟩ | ⟨g, cap, cur, rfl, hb, hg, hnc, _, hcs, htk⟩
  · exact ⟨none, 0, rfl, ⟨hl, Nat.le_refl _, fun i hi => absurd hi (by omega)⟩, fun g hg => by simp [Value.ownBlock] at hg⟩
  · refine ⟨_, cap, rfl, Rd.of_block hl hnc hg (fun i hi => ?_), fun g' hg' => by simp [Value.ownBlock] at hg'; omega⟩
    have := strCells_at ss i (by omega)
    rw [← htk, List.getElem?_take, if_pos (by omega)] at this
    simpa using this
theorem Rd.setLow {w : World} {oa : Option Addr} {n cap : Nat} {ss : List ByteArray} (h : Rd w oa n cap ss) {B : Nat} (hne : ∀ g, oa = some ⟨g, 0, none⟩ → B ≠ g) (u : Value) : Rd (w.setCell ⟨B, 0, none⟩ u) oa n cap ss := by
  refine ⟨h.len, h.room, fun i hi => ?_⟩
  obtain ⟨g, hg, hc⟩ := h.cell i hi
  exact ⟨g, hg, keepS (by exact hne g hg) hc⟩

theorem one_new (w : World) (v : Value) (t : TypeId) : ∀ (j : Nat) (u : Value), [v][j]? = some u → (w.alloc (.cells #[v] t)).cell? ((⟨w.heap.size, 0, none⟩ : Addr).add j) = some u := by
  intro j u hj
  match j, hj with
  | 0, hj =>
    simp at hj
    subst hj
    exact World.cell?_alloc_at _ _ _ _ rfl
theorem one_cell (x : ByteArray) : ∀ u ∈ [Value.string x], u.oneCell' = true := by
  intro u hu
  simp at hu
  subst hu
  rfl
theorem strCells_snoc (l : List ByteArray) (x : ByteArray) : strCells (l ++ [x]) = strCells l ++ [.string x] := strCells_append l [x]
/-- one round of a row that grows -/
theorem step_own {B : Nat} {w wr w1 : World} {v v' : Value} {k : Nat} {xs : List Value} {y : Value} {o : Obj} {ro : Obj}
    (hown : wr.ownsRow (B + 2) 9 1 v k xs) (hr : Hid (wr.heap[B + 1]? = some ro)) (hB : Below B w wr) (hS : Hid (B + 2 ≤ wr.heap.size))
    (hown' : w1.ownsRow (B + 2) 9 1 v' (k + 1) (xs ++ [y])) (hgrow : (wr.alloc o).grownBy w1 v.ownBlock) :
    w1.ownsRow (B + 2) 9 1 v' (k + 1) (xs ++ [y]) ∧ Hid (w1.heap[B + 1]? = some ro) ∧ Below B w w1 ∧ Hid (B + 2 ≤ w1.heap.size) := by
  have hlt := hown.lt
  have hS' := hS.out
  have hsz : (wr.alloc o).heap.size = wr.heap.size + 1 := by simp
  refine ⟨hown', ?_, (hB.alloc (by omega) o).grown hgrow (by omega) (fun g hg => by have := hlt g hg; omega), ?_⟩
  · show _ = _
    rw [hgrow.block (B + 1) (by omega) (fun e => by have := hlt (B + 1) e.symm; omega), Below.heap_alloc _ _ _ (by omega)]
    exact hr.out
  · show _ ≤ _
    have := hgrow.size
    omega
set_option maxHeartbeats 1600000 in
set_option maxRecDepth 100000 in
theorem few_any (oa : Option Addr) (n cap : Nat) (ss : List ByteArray) (w : World) (hA : Arg w oa n cap ss) :
    Calls Try.prog 5 #[.agg #[.slice oa n cap]] w fun e w' => Told1 e w' (fewL ss) ∧ Below w.heap.size w w' := by
  have hlen := Lib.hid hA.len
  have hmc := hA.most
  unfold maxLen at hmc
  have hroom := hA.room
  obtain ⟨m, hm⟩ : ∃ m, m = min 132 n := ⟨_, rfl⟩
  have hfl : Hid ((fewL ss).length = m) := by show _ = _; rw [few_length, hlen.out, hm]
  obtain ⟨i0, hi, hz0, hz1, hz2⟩ := info_parts info9
  by_cases hbig : 132 < n
  · obtain rfl : m = 132 := by omega
    clear hm
    go_enter Try.func5, Try.ntmps5
    go_wp2_with fail
    obtain ⟨W0, hW0⟩ : ∃ W0, W0 = (w.alloc (.cells #[.slice oa n cap] 24)).alloc (.cells #[.slice none 0 0] 24) := ⟨_, rfl⟩
    have hB0 : Below w.heap.size w W0 := by rw [hW0]; exact (below_alloc w _).alloc (by simp) _
    have hs0 : w.heap.size + 2 ≤ W0.heap.size := by rw [hW0]; simp
    have hr0 : W0.heap[w.heap.size + 1]? = some (.cells #[.slice none 0 0] 24 (0, 0)) := by
      rw [hW0]
      have := heap_alloc_new (w.alloc (.cells #[.slice oa n cap] 24)) (.cells #[.slice none 0 0] 24)
      simpa using this
    rw [← hW0]
    clear hW0
    go_loopw [3, 14] (fun v i wr => ∃ k : Nat, k ≤ 132 ∧ i = .int .i64 k ∧ wr.ownsRow (w.heap.size + 2) 9 1 v k (strCells ((fewL ss).take k)) ∧ Hid (wr.heap[w.heap.size + 1]? = some (.cells #[.slice none 0 0] 24 (0, 0))) ∧ Below w.heap.size w wr ∧ Hid (w.heap.size + 2 ≤ wr.heap.size)) (fun _ i _ => 132 - (intOf i).toNat)
    case atStart => exact ⟨0, Nat.zero_le _, rfl, World.ownsRow_nil _ _ _ _, hr0, hB0, hs0⟩
    case round =>
      clear hr0 hB0 hs0
      obtain ⟨k, hk, rfl, hown, hr, hB, hS⟩ := hrel
      by_cases h8 : k < 132
      · obtain ⟨b, off, rfl, hc0⟩ := hA.cell k (by omega)
        have hc := (hB.cell (p := ⟨b, off + k, none⟩) (World.block_lt_of_cell? _ _ hc0)).trans hc0
        have hsz := hA.each k (by omega)
        unfold maxLen at hsz
        have HT := Lib.hid (few_take ss k (by rw [hfl.out]; exact h8))
        have HK : Hid (((fewL ss).take k).length = k) := by show _ = _; rw [List.length_take, hfl.out]; omega
        clear hc0
        generalize ss.getD k ByteArray.empty = x at *
        by_cases hx : 130 < x.size
        · have hcut : Hid (cutS 130 x = x.extract 0 130) := by show _ = _; unfold cutS; rw [if_pos hx]
          go_wp2_with (first
            | (at_builtin; refine wpList_append_own _ rfl _ _ 22 rfl (w.heap.size + 2) 9 i0 (.string ⟨#[]⟩) 1 16 Try.underlying22 hi hz0 hz1 hz2 rfl (by decide) _ _ _ rfl (hown.alloc _) ⟨wr.heap.size, 0, none⟩ 1 1 [.string (x.extract 0 130)] rfl rfl (one_new _ _ _) (one_cell _) (by unfold maxLen; omega) (by omega) (by have := hS.out; simp; omega) ?_)
            | go_in)
          intro v' w1 hown' hgrow _
          have R := step_own hown hr hB hS hown' hgrow
          rw [← hcut.out, ← strCells_snoc, ← HT.out] at R
          clear hown' hgrow hown hc
          go_wp2
          go_roundw
          case rel => exact ⟨k + 1, by omega, by go_num, R⟩
          case measure => simp [intOf]; omega
        · have hcut : Hid (cutS 130 x = x) := by show _ = _; unfold cutS; rw [if_neg hx]
          go_wp2_with (first
            | (at_builtin; refine wpList_append_own _ rfl _ _ 22 rfl (w.heap.size + 2) 9 i0 (.string ⟨#[]⟩) 1 16 Try.underlying22 hi hz0 hz1 hz2 rfl (by decide) _ _ _ rfl (hown.alloc _) ⟨wr.heap.size, 0, none⟩ 1 1 [.string x] rfl rfl (one_new _ _ _) (one_cell _) (by unfold maxLen; omega) (by omega) (by have := hS.out; simp; omega) ?_)
            | go_in)
          intro v' w1 hown' hgrow _
          have R := step_own hown hr hB hS hown' hgrow
          rw [← hcut.out, ← strCells_snoc, ← HT.out] at R
          clear hown' hgrow hown hc
          go_wp2
          go_roundw
          case rel => exact ⟨k + 1, by omega, by go_num, R⟩
          case measure => simp [intOf]; omega
      · obtain rfl : k = 132 := by omega
        rw [List.take_of_length_le (by rw [hfl.out]; exact Nat.le_refl _)] at hown
        obtain ⟨ob, cp, rfl, hRd, hlow⟩ := Rd.of_own hfl.out hown
        have hcr := cell_of_one hr.out
        have hfr := free_of_one hr.out
        go_wp2
        refine bodyPost_ret (ret_cell rfl rfl (World.cell?_setCell_same _ _ _ hcr) rfl) rfl ?_
        refine ⟨⟨ob, _, cp, rfl, hRd.setLow (fun g hg => ?_) _⟩, hB.setCell (by show w.heap.size ≤ w.heap.size + 1; omega) _⟩
        have := hlow g (by rw [hg]; rfl)
        omega
  · obtain rfl : m = n := by omega
    clear hm
    have hmn : (m : Int) ≤ 132 := by omega
    go_enter Try.func5, Try.ntmps5
    go_wp2_with fail
    obtain ⟨W0, hW0⟩ : ∃ W0, W0 = (w.alloc (.cells #[.slice oa m cap] 24)).alloc (.cells #[.slice none 0 0] 24) := ⟨_, rfl⟩
    have hB0 : Below w.heap.size w W0 := by rw [hW0]; exact (below_alloc w _).alloc (by simp) _
    have hs0 : w.heap.size + 2 ≤ W0.heap.size := by rw [hW0]; simp
    have hr0 : W0.heap[w.heap.size + 1]? = some (.cells #[.slice none 0 0] 24 (0, 0)) := by
      rw [hW0]
      have := heap_alloc_new (w.alloc (.cells #[.slice oa m cap] 24)) (.cells #[.slice none 0 0] 24)
      simpa using this
    rw [← hW0]
    clear hW0
    go_loopw [3, 14] (fun v i wr => ∃ k : Nat, k ≤ m ∧ i = .int .i64 k ∧ wr.ownsRow (w.heap.size + 2) 9 1 v k (strCells ((fewL ss).take k)) ∧ Hid (wr.heap[w.heap.size + 1]? = some (.cells #[.slice none 0 0] 24 (0, 0))) ∧ Below w.heap.size w wr ∧ Hid (w.heap.size + 2 ≤ wr.heap.size)) (fun _ i _ => m - (intOf i).toNat)
    case atStart => exact ⟨0, Nat.zero_le _, rfl, World.ownsRow_nil _ _ _ _, hr0, hB0, hs0⟩
    case round =>
      clear hr0 hB0 hs0
      obtain ⟨k, hk, rfl, hown, hr, hB, hS⟩ := hrel
      by_cases h8 : k < m
      · obtain ⟨b, off, rfl, hc0⟩ := hA.cell k (by omega)
        have hc := (hB.cell (p := ⟨b, off + k, none⟩) (World.block_lt_of_cell? _ _ hc0)).trans hc0
        have hsz := hA.each k (by omega)
        unfold maxLen at hsz
        have HT := Lib.hid (few_take ss k (by rw [hfl.out]; exact h8))
        have HK : Hid (((fewL ss).take k).length = k) := by show _ = _; rw [List.length_take, hfl.out]; omega
        clear hc0
        generalize ss.getD k ByteArray.empty = x at *
        by_cases hx : 130 < x.size
        · have hcut : Hid (cutS 130 x = x.extract 0 130) := by show _ = _; unfold cutS; rw [if_pos hx]
          go_wp2_with (first
            | (at_builtin; refine wpList_append_own _ rfl _ _ 22 rfl (w.heap.size + 2) 9 i0 (.string ⟨#[]⟩) 1 16 Try.underlying22 hi hz0 hz1 hz2 rfl (by decide) _ _ _ rfl (hown.alloc _) ⟨wr.heap.size, 0, none⟩ 1 1 [.string (x.extract 0 130)] rfl rfl (one_new _ _ _) (one_cell _) (by unfold maxLen; omega) (by omega) (by have := hS.out; simp; omega) ?_)
            | go_in)
          intro v' w1 hown' hgrow _
          have R := step_own hown hr hB hS hown' hgrow
          rw [← hcut.out, ← strCells_snoc, ← HT.out] at R
          clear hown' hgrow hown hc
          go_wp2
          go_roundw
          case rel => exact ⟨k + 1, by omega, by go_num, R⟩
          case measure => simp [intOf]; omega
        · have hcut : Hid (cutS 130 x = x) := by show _ = _; unfold cutS; rw [if_neg hx]
          go_wp2_with (first
            | (at_builtin; refine wpList_append_own _ rfl _ _ 22 rfl (w.heap.size + 2) 9 i0 (.string ⟨#[]⟩) 1 16 Try.underlying22 hi hz0 hz1 hz2 rfl (by decide) _ _ _ rfl (hown.alloc _) ⟨wr.heap.size, 0, none⟩ 1 1 [.string x] rfl rfl (one_new _ _ _) (one_cell _) (by unfold maxLen; omega) (by omega) (by have := hS.out; simp; omega) ?_)
            | go_in)
          intro v' w1 hown' hgrow _
          have R := step_own hown hr hB hS hown' hgrow
          rw [← hcut.out, ← strCells_snoc, ← HT.out] at R
          clear hown' hgrow hown hc
          go_wp2
          go_roundw
          case rel => exact ⟨k + 1, by omega, by go_num, R⟩
          case measure => simp [intOf]; omega
      · obtain rfl : m = k := by omega
        rw [List.take_of_length_le (by rw [hfl.out]; exact Nat.le_refl _)] at hown
        obtain ⟨ob, cp, rfl, hRd, hlow⟩ := Rd.of_own hfl.out hown
        have hcr := cell_of_one hr.out
        have hfr := free_of_one hr.out
        go_wp2
        refine bodyPost_ret (ret_cell rfl rfl (World.cell?_setCell_same _ _ _ hcr) rfl) rfl ?_
        refine ⟨⟨ob, _, cp, rfl, hRd.setLow (fun g hg => ?_) _⟩, hB.setCell (by show w.heap.size ≤ w.heap.size + 1; omega) _⟩
        have := hlow g (by rw [hg]; rfl)
        omega

end Go.Proofs.Ytaknpipghkannaa
