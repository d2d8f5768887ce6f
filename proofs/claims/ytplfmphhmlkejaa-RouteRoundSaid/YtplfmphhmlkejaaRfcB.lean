/-
  The document's own: which receivers may be, and where a name stands.
-/
import Derived.Test.YtplfmphhmlkejaaRfcA
namespace Go.Proofs.Ytplfmphhmlkejaa
open Go.RowKit Go.Shelf
set_option linter.unusedVariables false

theorem if_text (s : ByteArray) : (s.toList == [105, 102]) = decide (s = tx ifT) := by
  have e : [105, 102] = (tx ifT).toList := (tx_list ifT).symm
  rw [e]
  by_cases h : s = tx ifT
  · subst h; simp
  · rw [decide_eq_false h]
    have : s.toList ≠ (tx ifT).toList := fun e => h (toList_inj e)
    simpa using this
set_option maxRecDepth 100000 in
set_option maxHeartbeats 3200000 in
theorem refRcv_any (r : R9) (hs : r.nm.size ≤ 9223372036854775807) (w : World) :
    Calls Try.prog 23 #[aggR r] w fun e w' => e = .returned (.bool (rcvR r)) ∧ Below w.heap.size w w' := by
  obtain ⟨s, ba, tp, ji, tr, fa, op, bu, ev⟩ := r
  dsimp only at hs
  dsimp only [aggR]
  have HN := fun w => refName_pure s hs w
  have hI := if_text s
  have HK := fun w => refBack_any ba tp ji w
  have HF := fun w => refBreaker_any fa op w
  have HU := fun w => refBucket_any bu ev w
  have HR : Hid (rcvR ⟨s, ba, tp, ji, tr, fa, op, bu, ev⟩ = (nameB s && (!decide (s = tx ifT) && (backB ba tp ji && ((decide (1 ≤ tr) && decide (tr ≤ 100)) && (brkB fa op && brkB bu ev)))))) := rfl
  clear hs
  generalize nameB s = x1 at *
  generalize decide (s = tx ifT) = x2 at *
  generalize backB ba tp ji = x3 at *
  generalize brkB fa op = x5 at *
  generalize brkB bu ev = x6 at *
  have V0 := Vals.new w 59 #[.string s, .int .i64 ba, .int .i64 tp, .int .i64 ji, .int .i64 tr, .int .i64 fa, .int .i64 op, .int .i64 bu, .int .i64 ev]
  have B0 := below_alloc w (.cells #[.string s, .int .i64 ba, .int .i64 tp, .int .i64 ji, .int .i64 tr, .int .i64 fa, .int .i64 op, .int .i64 bu, .int .i64 ev] 59)
  go_enter Try.func23, Try.ntmps23
  go_upto_region 1 with fail
  generalize w.alloc (.cells #[.string s, .int .i64 ba, .int .i64 tp, .int .i64 ji, .int .i64 tr, .int .i64 fa, .int .i64 op, .int .i64 bu, .int .i64 ev] 59) = w1 at *
  have c0 : w1.cell? ⟨w.heap.size, 0, none⟩ = some (.string s) := V0.cell 0
  have c1 : w1.cell? ⟨w.heap.size, 1, none⟩ = some (.int .i64 ba) := V0.cell 1
  have c2 : w1.cell? ⟨w.heap.size, 2, none⟩ = some (.int .i64 tp) := V0.cell 2
  have c3 : w1.cell? ⟨w.heap.size, 3, none⟩ = some (.int .i64 ji) := V0.cell 3
  have c4 : w1.cell? ⟨w.heap.size, 4, none⟩ = some (.int .i64 tr) := V0.cell 4
  have c5 : w1.cell? ⟨w.heap.size, 5, none⟩ = some (.int .i64 fa) := V0.cell 5
  have c6 : w1.cell? ⟨w.heap.size, 6, none⟩ = some (.int .i64 op) := V0.cell 6
  have c7 : w1.cell? ⟨w.heap.size, 7, none⟩ = some (.int .i64 bu) := V0.cell 7
  have c8 : w1.cell? ⟨w.heap.size, 8, none⟩ = some (.int .i64 ev) := V0.cell 8
  cases x1 with
  | false =>
    go_wp2_with fail
    refine (HN _).mono ?_
    rintro e w2 ⟨rfl, rfl⟩
    go_wp2_with fail
    go_ret
    exact ⟨retB (by rw [HR.out]; simp), B0⟩
  | true =>
    cases x2 with
    | true =>
      go_wp2_with fail
      refine (HN _).mono ?_
      rintro e w2 ⟨rfl, rfl⟩
      go_wp2_with fail
      go_ret
      exact ⟨retB (by rw [HR.out]; simp), B0⟩
    | false =>
      cases x3 with
      | false =>
        go_wp2_with fail
        refine (HN _).mono ?_
        rintro e w2 ⟨rfl, rfl⟩
        go_wp2_with fail
        refine (HK _).mono ?_
        rintro e w3 ⟨rfl, B3⟩
        have V3 := V0.keep B3 (Nat.le_refl _)
        have B03 := B0.trans (B3.mono B0.size)
        clear c0 c1 c2 c3 c4 c5 c6 c7 c8
        have d0 : w3.cell? ⟨w.heap.size, 0, none⟩ = some (.string s) := V3.cell 0
        have d1 : w3.cell? ⟨w.heap.size, 1, none⟩ = some (.int .i64 ba) := V3.cell 1
        have d2 : w3.cell? ⟨w.heap.size, 2, none⟩ = some (.int .i64 tp) := V3.cell 2
        have d3 : w3.cell? ⟨w.heap.size, 3, none⟩ = some (.int .i64 ji) := V3.cell 3
        have d4 : w3.cell? ⟨w.heap.size, 4, none⟩ = some (.int .i64 tr) := V3.cell 4
        have d5 : w3.cell? ⟨w.heap.size, 5, none⟩ = some (.int .i64 fa) := V3.cell 5
        have d6 : w3.cell? ⟨w.heap.size, 6, none⟩ = some (.int .i64 op) := V3.cell 6
        have d7 : w3.cell? ⟨w.heap.size, 7, none⟩ = some (.int .i64 bu) := V3.cell 7
        have d8 : w3.cell? ⟨w.heap.size, 8, none⟩ = some (.int .i64 ev) := V3.cell 8
        go_wp2_with fail
        go_ret
        exact ⟨retB (by rw [HR.out]; simp), B03⟩
      | true =>
        go_wp2_with fail
        refine (HN _).mono ?_
        rintro e w2 ⟨rfl, rfl⟩
        go_wp2_with fail
        refine (HK _).mono ?_
        rintro e w3 ⟨rfl, B3⟩
        have V3 := V0.keep B3 (Nat.le_refl _)
        have B03 := B0.trans (B3.mono B0.size)
        clear c0 c1 c2 c3 c4 c5 c6 c7 c8
        have d0 : w3.cell? ⟨w.heap.size, 0, none⟩ = some (.string s) := V3.cell 0
        have d1 : w3.cell? ⟨w.heap.size, 1, none⟩ = some (.int .i64 ba) := V3.cell 1
        have d2 : w3.cell? ⟨w.heap.size, 2, none⟩ = some (.int .i64 tp) := V3.cell 2
        have d3 : w3.cell? ⟨w.heap.size, 3, none⟩ = some (.int .i64 ji) := V3.cell 3
        have d4 : w3.cell? ⟨w.heap.size, 4, none⟩ = some (.int .i64 tr) := V3.cell 4
        have d5 : w3.cell? ⟨w.heap.size, 5, none⟩ = some (.int .i64 fa) := V3.cell 5
        have d6 : w3.cell? ⟨w.heap.size, 6, none⟩ = some (.int .i64 op) := V3.cell 6
        have d7 : w3.cell? ⟨w.heap.size, 7, none⟩ = some (.int .i64 bu) := V3.cell 7
        have d8 : w3.cell? ⟨w.heap.size, 8, none⟩ = some (.int .i64 ev) := V3.cell 8
        by_cases h1 : 1 ≤ tr
        · by_cases h2 : tr ≤ 100
          · cases x5 with
            | false =>
              go_wp2_with fail
              refine (HF _).mono ?_
              rintro e w4 ⟨rfl, B4⟩
              have V4 := V3.keep B4 (Nat.le_refl _)
              have B04 := B03.trans (B4.mono B03.size)
              clear d0 d1 d2 d3 d4 d5 d6 d7 d8
              have e0 : w4.cell? ⟨w.heap.size, 0, none⟩ = some (.string s) := V4.cell 0
              have e1 : w4.cell? ⟨w.heap.size, 1, none⟩ = some (.int .i64 ba) := V4.cell 1
              have e2 : w4.cell? ⟨w.heap.size, 2, none⟩ = some (.int .i64 tp) := V4.cell 2
              have e3 : w4.cell? ⟨w.heap.size, 3, none⟩ = some (.int .i64 ji) := V4.cell 3
              have e4 : w4.cell? ⟨w.heap.size, 4, none⟩ = some (.int .i64 tr) := V4.cell 4
              have e5 : w4.cell? ⟨w.heap.size, 5, none⟩ = some (.int .i64 fa) := V4.cell 5
              have e6 : w4.cell? ⟨w.heap.size, 6, none⟩ = some (.int .i64 op) := V4.cell 6
              have e7 : w4.cell? ⟨w.heap.size, 7, none⟩ = some (.int .i64 bu) := V4.cell 7
              have e8 : w4.cell? ⟨w.heap.size, 8, none⟩ = some (.int .i64 ev) := V4.cell 8
              go_wp2_with fail
              go_ret
              exact ⟨retB (by rw [HR.out]; simp [h1, h2]), B04⟩
            | true =>
              go_wp2_with fail
              refine (HF _).mono ?_
              rintro e w4 ⟨rfl, B4⟩
              have V4 := V3.keep B4 (Nat.le_refl _)
              have B04 := B03.trans (B4.mono B03.size)
              clear d0 d1 d2 d3 d4 d5 d6 d7 d8
              have e0 : w4.cell? ⟨w.heap.size, 0, none⟩ = some (.string s) := V4.cell 0
              have e1 : w4.cell? ⟨w.heap.size, 1, none⟩ = some (.int .i64 ba) := V4.cell 1
              have e2 : w4.cell? ⟨w.heap.size, 2, none⟩ = some (.int .i64 tp) := V4.cell 2
              have e3 : w4.cell? ⟨w.heap.size, 3, none⟩ = some (.int .i64 ji) := V4.cell 3
              have e4 : w4.cell? ⟨w.heap.size, 4, none⟩ = some (.int .i64 tr) := V4.cell 4
              have e5 : w4.cell? ⟨w.heap.size, 5, none⟩ = some (.int .i64 fa) := V4.cell 5
              have e6 : w4.cell? ⟨w.heap.size, 6, none⟩ = some (.int .i64 op) := V4.cell 6
              have e7 : w4.cell? ⟨w.heap.size, 7, none⟩ = some (.int .i64 bu) := V4.cell 7
              have e8 : w4.cell? ⟨w.heap.size, 8, none⟩ = some (.int .i64 ev) := V4.cell 8
              go_wp2_with fail
              refine (HU _).mono ?_
              rintro e w5 ⟨rfl, B5⟩
              go_wp2_with fail
              go_ret
              exact ⟨retB (by rw [HR.out]; simp [h1, h2]), B04.trans (B5.mono B04.size)⟩
          · go_wp2_with fail
            go_ret
            exact ⟨retB (by rw [HR.out, show decide (tr ≤ 100) = false from decide_eq_false (by omega)]; simp), B03⟩
        · go_wp2_with fail
          go_ret
          exact ⟨retB (by rw [HR.out, show decide (1 ≤ tr) = false from decide_eq_false (by omega)]; simp), B03⟩
/-- where a name stands, or -1 -/
def placeN (l : List R9) (s : ByteArray) : Int := match l.findIdx? fun r => decide (r.nm = s) with
  | some k => (k : Int)
  | none => -1
theorem placeN_hit {l : List R9} {s : ByteArray} (k : Nat) (hk : k < l.length) (hA : ∀ i, i < k → (l.getD i zR).nm ≠ s) (h : (l.getD k zR).nm = s) : placeN l s = (k : Int) := by
  have e : (l.findIdx? fun r => decide (r.nm = s)) = some k := by
    rw [List.findIdx?_eq_some_iff_getElem]
    refine ⟨hk, by simp only [decide_eq_true_eq]; rw [← getD_R l k hk]; exact h, fun j hj => ?_⟩
    have := hA j hj
    rw [getD_R l j (by omega)] at this
    simpa using this
  unfold placeN
  rw [e]
theorem placeN_none {l : List R9} {s : ByteArray} (hA : ∀ i, i < l.length → (l.getD i zR).nm ≠ s) : placeN l s = -1 := by
  have e : (l.findIdx? fun r => decide (r.nm = s)) = none := by
    rw [List.findIdx?_eq_none_iff]
    intro x hx
    obtain ⟨i, hi, rfl⟩ := List.getElem_of_mem hx
    have := hA i hi
    rw [getD_R l i hi] at this
    simpa using this
  unfold placeN
  rw [e]
set_option maxRecDepth 100000 in
set_option maxHeartbeats 3200000 in
theorem refPlace_any (oa : Option Addr) (n cap : Nat) (l : List R9) (s : ByteArray) (w : World) (h : Rs w oa n cap l) (hn : n ≤ 9223372036854775807) :
    Calls Try.prog 24 #[.slice oa n cap, .string s] w fun e w' => e = .returned (.int .i64 (placeN l s)) ∧ Below w.heap.size w w' := by
  have hr := h.room
  have HL := Lib.hid h.len
  go_enter Try.func24, Try.ntmps24
  go_wp2_with fail
  go_loopw [9] (fun s9 wr => ∃ k : Nat, k ≤ n ∧ s9 = .int .i64 k ∧ Below w.heap.size w wr ∧ Hid (∀ i, i < k → (l.getD i zR).nm ≠ s)) (fun s9 _ => n - (intOf s9).toNat)
  case atStart => exact ⟨0, Nat.zero_le _, rfl, Below.refl _ _, fun i hi => absurd hi (by omega)⟩
  case round =>
    obtain ⟨k, hk, rfl, hB, HA⟩ := hrel
    by_cases hlt : k < n
    · obtain ⟨g, o, rfl, c0, c1, c2, c3, c4, c5, c6, c7, c8⟩ := (h.below hB (Nat.le_refl _)).nine k hlt
      have HH : Hid ((l.getD k zR).nm = s → placeN l s = (k : Int)) := fun e => placeN_hit k (by rw [HL.out]; exact hlt) HA.out e
      have HQ : Hid ((l.getD k zR).nm ≠ s → ∀ i, i < k + 1 → (l.getD i zR).nm ≠ s) := fun e i hi => by
        by_cases e2 : i = k
        · subst e2; exact e
        · exact HA.out i (by omega)
      generalize l.getD k zR = r at *
      obtain ⟨x, ba, tp, ji, tr, fa, op, bu, ev⟩ := r
      dsimp only at c0 c1 c2 c3 c4 c5 c6 c7 c8 HH HQ
      clear h HA
      have B2 := hB.alloc hB.size (.cells #[.string x, .int .i64 ba, .int .i64 tp, .int .i64 ji, .int .i64 tr, .int .i64 fa, .int .i64 op, .int .i64 bu, .int .i64 ev] 59)
      by_cases he : x = s
      · have HX := Lib.hid (HH.out he)
        have hq : (x.toList == s.toList) = true := by rw [he]; simp
        clear HH HQ he
        go_wp2_with fail
        go_ret
        exact ⟨retI HX.out.symm, B2⟩
      · have HX := Lib.hid (HQ.out he)
        have hq : (x.toList == s.toList) = false := by
          have : x.toList ≠ s.toList := fun e => he (toList_inj e)
          simpa using this
        clear HH HQ he
        go_wp2_with fail
        go_roundw
        case rel => exact ⟨k + 1, by omega, by go_num, B2, HX⟩
        case measure => simp [intOf]; omega
    · obtain rfl : k = n := by omega
      have HX := Lib.hid (placeN_none (l := l) (s := s) (fun i hi => HA.out i (by rw [HL.out] at hi; exact hi)))
      clear h HA
      go_wp2_with fail
      go_ret
      exact ⟨retI HX.out.symm, hB⟩
end Go.Proofs.Ytplfmphhmlkejaa
