/-
  The laws' own cut of what they are handed; one record, and one that is torn.
-/
import Derived.Test.YtmjbhmmcpjhmcaaLogW
namespace Go.Proofs.Ytmjbhmmcpjhmcaa
open Go.RowKit
set_option linter.unusedVariables false

/-- so many first texts, each one's first bytes -/
def fewM (m : Nat) (ss : List ByteArray) : List ByteArray := (ss.take m).map (cutS 130)
theorem fewM_length (m : Nat) (ss : List ByteArray) : (fewM m ss).length = min m ss.length := by unfold fewM; rw [List.length_map, List.length_take]
theorem fewM_take (m : Nat) (ss : List ByteArray) (k : Nat) (h : k < (fewM m ss).length) : (fewM m ss).take (k + 1) = (fewM m ss).take k ++ [cutS 130 (ss.getD k ByteArray.empty)] := by
  have h' := fewM_length m ss
  have e : (fewM m ss)[k]? = some (cutS 130 (ss.getD k ByteArray.empty)) := by
    unfold fewM
    rw [List.getElem?_map, List.getElem?_take, if_pos (by omega), List.getD_eq_getElem?_getD, List.getElem?_eq_getElem (by omega)]
    rfl
  rw [List.take_succ_eq_append_getElem h]
  rw [List.getElem?_eq_getElem h] at e
  rw [Option.some.inj e]
theorem fewM_small (m : Nat) (ss : List ByteArray) : ∀ p ∈ fewM m ss, p.size ≤ 130 := by
  intro p hp
  unfold fewM at hp
  obtain ⟨q, _, rfl⟩ := List.mem_map.1 hp
  exact cut_size 130 q
/-- one round of a row that grows -/
theorem grow_row {B : Nat} {w wr w1 : World} {v : Value} {k : Nat} {xs : List Value} {o : Obj} (hown : wr.ownsRow B 9 1 v k xs) (hB : Below B w wr) (hS : B ≤ wr.heap.size) (hgrow : (wr.alloc o).grownBy w1 v.ownBlock) : Below B w w1 ∧ B ≤ w1.heap.size := by
  have hlt := hown.lt
  have hsz : (wr.alloc o).heap.size = wr.heap.size + 1 := by simp
  refine ⟨(hB.alloc (by omega) o).grown hgrow (by omega) (fun g hg => by have := hlt g hg; omega), ?_⟩
  have := hgrow.size
  omega
set_option maxHeartbeats 1600000 in
set_option maxRecDepth 100000 in
theorem few_any (oa : Option Addr) (n cap : Nat) (ss : List ByteArray) (most : Nat) (w : World) (hA : Arg w oa n cap ss) (hmost : most ≤ 1000) :
    Calls Try.prog 10 #[.slice oa n cap, .int .i64 most] w fun e w' => (∃ ob k c, e = .returned (.slice ob k c) ∧ Rd w' ob k c (fewM most ss)) ∧ Below w.heap.size w w' := by
  have hlen := Lib.hid hA.len
  have hmc := hA.most
  unfold maxLen at hmc
  have hroom := hA.room
  obtain ⟨m, hm⟩ : ∃ m, m = min most n := ⟨_, rfl⟩
  have hfl : Hid ((fewM most ss).length = m) := by show _ = _; rw [fewM_length, hlen.out, hm]
  have hmn : m ≤ n := by omega
  have hmm : m ≤ 1000 := by omega
  obtain ⟨i0, hi, hz0, hz1, hz2⟩ := info_parts info9
  have hcell := Lib.hid hA.cell
  have heach := Lib.hid hA.each
  clear hA
  by_cases hbig : most < n
  · obtain rfl : m = most := by omega
    clear hm
    go_enter Try.func10, Try.ntmps10
    go_wp2_with fail
    go_loopw [5, 15] (fun v i wr => ∃ k : Nat, k ≤ m ∧ i = .int .i64 k ∧ wr.ownsRow w.heap.size 9 1 v k (strCells ((fewM m ss).take k)) ∧ Below w.heap.size w wr ∧ Hid (w.heap.size ≤ wr.heap.size)) (fun _ i _ => m - (intOf i).toNat)
    case atStart => exact ⟨0, Nat.zero_le _, rfl, World.ownsRow_nil _ _ _ _, Below.refl _ _, Nat.le_refl _⟩
    case round =>
      obtain ⟨k, hk, rfl, hown, hB, hS⟩ := hrel
      by_cases h8 : k < m
      · obtain ⟨b, off, rfl, hc0⟩ := hcell.out k (by omega)
        have hc := (hB.cell (p := ⟨b, off + k, none⟩) (World.block_lt_of_cell? _ _ hc0)).trans hc0
        have hsz := heach.out k (by omega)
        unfold maxLen at hsz
        have HT := Lib.hid (fewM_take m ss k (by rw [hfl.out]; exact h8))
        clear hc0
        generalize ss.getD k ByteArray.empty = x at *
        by_cases hx : 130 < x.size
        · have hcut : Hid (cutS 130 x = x.extract 0 130) := by show _ = _; unfold cutS; rw [if_pos hx]
          go_wp2_with (at_builtin; refine wpList_append_own _ rfl _ _ 22 rfl w.heap.size 9 i0 (.string ⟨#[]⟩) 1 16 Try.underlying22 hi hz0 hz1 hz2 rfl (by decide) _ _ _ rfl (hown.alloc _) ⟨wr.heap.size, 0, none⟩ 1 1 [.string (x.extract 0 130)] rfl rfl (one_new _ _ _) (one_cell _) (by unfold maxLen; omega) (by omega) (by have := hS.out; simp; omega) ?_; intro v' w1 hown' hgrow _)
          have R := grow_row hown hB hS.out hgrow
          rw [← hcut.out, ← strCells_snoc, ← HT.out] at hown'
          have HO := Lib.hid hown'
          clear hown' hgrow hown hc hB hS
          go_wp2_with fail
          go_roundw
          case rel => exact ⟨k + 1, by omega, by go_num, HO.out, R.1, R.2⟩
          case measure => simp [intOf]; omega
        · have hcut : Hid (cutS 130 x = x) := by show _ = _; unfold cutS; rw [if_neg hx]
          go_wp2_with (at_builtin; refine wpList_append_own _ rfl _ _ 22 rfl w.heap.size 9 i0 (.string ⟨#[]⟩) 1 16 Try.underlying22 hi hz0 hz1 hz2 rfl (by decide) _ _ _ rfl (hown.alloc _) ⟨wr.heap.size, 0, none⟩ 1 1 [.string x] rfl rfl (one_new _ _ _) (one_cell _) (by unfold maxLen; omega) (by omega) (by have := hS.out; simp; omega) ?_; intro v' w1 hown' hgrow _)
          have R := grow_row hown hB hS.out hgrow
          rw [← hcut.out, ← strCells_snoc, ← HT.out] at hown'
          have HO := Lib.hid hown'
          clear hown' hgrow hown hc hB hS
          go_wp2_with fail
          go_roundw
          case rel => exact ⟨k + 1, by omega, by go_num, HO.out, R.1, R.2⟩
          case measure => simp [intOf]; omega
      · obtain rfl : m = k := by omega
        rw [List.take_of_length_le (by rw [hfl.out]; exact Nat.le_refl _)] at hown
        obtain ⟨ob, cp, rfl, hRd, hlow⟩ := Rd.of_own hfl.out hown
        go_wp2_with fail
        go_ret
        exact ⟨⟨ob, _, cp, rfl, hRd⟩, hB⟩
  · obtain rfl : m = n := by omega
    clear hm
    go_enter Try.func10, Try.ntmps10
    go_wp2_with fail
    go_loopw [5, 15] (fun v i wr => ∃ k : Nat, k ≤ m ∧ i = .int .i64 k ∧ wr.ownsRow w.heap.size 9 1 v k (strCells ((fewM most ss).take k)) ∧ Below w.heap.size w wr ∧ Hid (w.heap.size ≤ wr.heap.size)) (fun _ i _ => m - (intOf i).toNat)
    case atStart => exact ⟨0, Nat.zero_le _, rfl, World.ownsRow_nil _ _ _ _, Below.refl _ _, Nat.le_refl _⟩
    case round =>
      obtain ⟨k, hk, rfl, hown, hB, hS⟩ := hrel
      by_cases h8 : k < m
      · obtain ⟨b, off, rfl, hc0⟩ := hcell.out k (by omega)
        have hc := (hB.cell (p := ⟨b, off + k, none⟩) (World.block_lt_of_cell? _ _ hc0)).trans hc0
        have hsz := heach.out k (by omega)
        unfold maxLen at hsz
        have HT := Lib.hid (fewM_take most ss k (by rw [hfl.out]; exact h8))
        clear hc0
        generalize ss.getD k ByteArray.empty = x at *
        by_cases hx : 130 < x.size
        · have hcut : Hid (cutS 130 x = x.extract 0 130) := by show _ = _; unfold cutS; rw [if_pos hx]
          go_wp2_with (at_builtin; refine wpList_append_own _ rfl _ _ 22 rfl w.heap.size 9 i0 (.string ⟨#[]⟩) 1 16 Try.underlying22 hi hz0 hz1 hz2 rfl (by decide) _ _ _ rfl (hown.alloc _) ⟨wr.heap.size, 0, none⟩ 1 1 [.string (x.extract 0 130)] rfl rfl (one_new _ _ _) (one_cell _) (by unfold maxLen; omega) (by omega) (by have := hS.out; simp; omega) ?_; intro v' w1 hown' hgrow _)
          have R := grow_row hown hB hS.out hgrow
          rw [← hcut.out, ← strCells_snoc, ← HT.out] at hown'
          have HO := Lib.hid hown'
          clear hown' hgrow hown hc hB hS
          go_wp2_with fail
          go_roundw
          case rel => exact ⟨k + 1, by omega, by go_num, HO.out, R.1, R.2⟩
          case measure => simp [intOf]; omega
        · have hcut : Hid (cutS 130 x = x) := by show _ = _; unfold cutS; rw [if_neg hx]
          go_wp2_with (at_builtin; refine wpList_append_own _ rfl _ _ 22 rfl w.heap.size 9 i0 (.string ⟨#[]⟩) 1 16 Try.underlying22 hi hz0 hz1 hz2 rfl (by decide) _ _ _ rfl (hown.alloc _) ⟨wr.heap.size, 0, none⟩ 1 1 [.string x] rfl rfl (one_new _ _ _) (one_cell _) (by unfold maxLen; omega) (by omega) (by have := hS.out; simp; omega) ?_; intro v' w1 hown' hgrow _)
          have R := grow_row hown hB hS.out hgrow
          rw [← hcut.out, ← strCells_snoc, ← HT.out] at hown'
          have HO := Lib.hid hown'
          clear hown' hgrow hown hc hB hS
          go_wp2_with fail
          go_roundw
          case rel => exact ⟨k + 1, by omega, by go_num, HO.out, R.1, R.2⟩
          case measure => simp [intOf]; omega
      · obtain rfl : m = k := by omega
        rw [List.take_of_length_le (by rw [hfl.out]; exact Nat.le_refl _)] at hown
        obtain ⟨ob, cp, rfl, hRd, hlow⟩ := Rd.of_own hfl.out hown
        go_wp2_with fail
        go_ret
        exact ⟨⟨ob, _, cp, rfl, hRd⟩, hB⟩
/-- what is told: a store -/
def TellC (e : Ending) (w' : World) (S : St) : Prop :=
  ∃ oa n cap, e = .returned (.agg #[.slice oa n cap, .int .i64 S.g, .int .i64 S.u, .int .i64 S.t, .bool S.d]) ∧ Rd w' oa n cap S.ss
theorem ret_sto {fn : Func} {p : Tmp} (h : fn.results = #[.cell p 26]) {tmps : Array Value} {w : World} {A : Nat} {x : Value} {g u t : Int} {d : Bool} (hp : tmps.getD p undef = .pointer (some ⟨A, 0, none⟩)) (hA : SRow w A x g u t d) (hx : x.oneCell' = true) :
    (results fn tmps).run Try.prog w = .ok (.agg #[x, .int .i64 g, .int .i64 u, .int .i64 t, .bool d]) w := by
  have hl := load5 hA hx
  have hp' : tmps[p]?.getD undef = .pointer (some ⟨A, 0, none⟩) := by simpa using hp
  simp only [results, h]
  simp [hp', asAddr, hl]
set_option maxHeartbeats 1600000 in
set_option maxRecDepth 100000 in
theorem scut_any (oa : Option Addr) (n cap : Nat) (ss : List ByteArray) (g u t : Int) (d : Bool) (w : World) (hA : Arg w oa n cap ss) :
    Calls Try.prog 9 #[.agg #[.slice oa n cap, .int .i64 g, .int .i64 u, .int .i64 t, .bool d]] w fun e w' => TellC e w' ⟨fewM 132 ss, g, u, t, d⟩ ∧ Below w.heap.size w w' := by
  obtain ⟨W0, hW0⟩ : ∃ W0, W0 = (w.alloc (.cells #[.slice oa n cap, .int .i64 g, .int .i64 u, .int .i64 t, .bool d] 26)).alloc (.cells #[.slice none 0 0, .int .i64 0, .int .i64 0, .int .i64 0, .bool false] 26) := ⟨_, rfl⟩
  have hB0 : Below w.heap.size w W0 := by rw [hW0]; exact (below_alloc w _).alloc (by simp) _
  have A0 : SRow W0 w.heap.size (.slice oa n cap) g u t d := by
    rw [hW0]
    exact SRow.keep (heap_alloc_new w _) (below_alloc _ _)
  have R0 : SRow W0 (w.heap.size + 1) (.slice none 0 0) 0 0 0 false := by
    unfold SRow
    rw [hW0]
    have := heap_alloc_new (w.alloc (.cells #[.slice oa n cap, .int .i64 g, .int .i64 u, .int .i64 t, .bool d] 26)) (.cells #[.slice none 0 0, .int .i64 0, .int .i64 0, .int .i64 0, .bool false] 26)
    simpa using this
  have hA0 : Arg W0 oa n cap ss := ⟨hA.len, hA.room, hA.most, hA.each, fun i hi => by
    obtain ⟨b, off, h1, h2⟩ := hA.cell i hi
    exact ⟨b, off, h1, keepC hB0 h2⟩⟩
  have v0 := A0.at0
  have HW := Lib.hid hW0
  clear hW0
  go_enter Try.func9, Try.ntmps9
  go_wp2_with fail
  rw [← HW.out]
  clear HW v0
  refine (few_any oa n cap ss 132 W0 hA0 (by omega)).mono ?_
  rintro e w1 ⟨⟨ob, k, c, rfl, hR1⟩, hB1⟩
  have A1 := A0.keep hB1
  have R1 := R0.keep hB1
  have hBB := hB0.trans (hB1.mono hB0.size)
  clear A0 R0 hB0 hB1 hA0
  have v0 := A1.at0
  have vf := A1.free
  have A2 := A1.set0 (.slice ob k c)
  have R2 := R1.far (A := w.heap.size) (by omega) 0 (.slice ob k c)
  have hR2 : Rd (w1.setCell ⟨w.heap.size, 0, none⟩ (.slice ob k c)) ob k c (fewM 132 ss) := hR1.setDisk v0 _
  have hB2 := hBB.setCell (p := ⟨w.heap.size, 0, none⟩) (Nat.le_refl _) (.slice ob k c)
  obtain ⟨W2, hW2⟩ : ∃ W2, W2 = w1.setCell ⟨w.heap.size, 0, none⟩ (.slice ob k c) := ⟨_, rfl⟩
  obtain ⟨q0, q1, q2, q3, q4⟩ := A2.cells
  obtain ⟨p0, p1, p2, p3, p4⟩ := R2.cells
  have pf := R2.free
  go_wp2_with fail
  refine bodyPost_ret (ret_sto rfl rfl (R2.put (.slice ob k c) g u t d) rfl) rfl ?_
  exact ⟨⟨ob, k, c, rfl, hR2.put R2 ⟨_, _, _, rfl⟩ _ _ _ _ _⟩, put_below hB2 (by omega) _ _ _ _ _⟩
end Go.Proofs.Ytmjbhmmcpjhmcaa
