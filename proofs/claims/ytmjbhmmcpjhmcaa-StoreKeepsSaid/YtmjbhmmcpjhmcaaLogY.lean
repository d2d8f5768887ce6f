/-
  Whether two stores are the same, and two rows; one record, and one that is torn.
-/
import Derived.Test.YtmjbhmmcpjhmcaaLogX
namespace Go.Proofs.Ytmjbhmmcpjhmcaa
open Go.RowKit
set_option linter.unusedVariables false

set_option maxHeartbeats 1600000 in
theorem texts_any (oa : Option Addr) (n cap : Nat) (xs : List ByteArray) (ob : Option Addr) (m cbp : Nat) (ys : List ByteArray) (w : World) (hX : Rd w oa n cap xs) (hY : Rd w ob m cbp ys) (hn : n ≤ 1000) (hm : m ≤ 1000) :
    Calls Try.prog 20 #[.slice oa n cap, .slice ob m cbp] w fun e w' => e = .returned (.bool (sameB xs ys)) ∧ Below w.heap.size w w' := by
  by_cases hnm : n = m
  · subst hnm
    go_enter Try.func20, Try.ntmps20
    go_wp2_with fail
    go_loopw [13] (fun i wr => ∃ k : Nat, k ≤ n ∧ i = .int .i64 k ∧ Hid (xs.take k = ys.take k) ∧ Below w.heap.size w wr) (fun i _ => n - (intOf i).toNat)
    case atStart => exact ⟨0, Nat.zero_le _, rfl, rfl, Below.refl _ _⟩
    case round =>
      obtain ⟨k, hk, rfl, hall, hBw⟩ := hrel
      by_cases h8 : k < n
      · obtain ⟨g, rfl, hc⟩ := hX.cell k h8
        obtain ⟨g2, rfl, hd⟩ := hY.cell k h8
        have hcX := (hBw.cell (p := ⟨g, k, none⟩) (World.block_lt_of_cell? w _ hc)).trans hc
        have hcY := (hBw.cell (p := ⟨g2, k, none⟩) (World.block_lt_of_cell? w _ hd)).trans hd
        clear hc hd
        have hkn : (k : Int) < (n : Int) := by omega
        have hk0 : (0 : Int) ≤ (k : Int) := by omega
        generalize he : xs.getD k ByteArray.empty = s at *
        have HE := Lib.hid he
        clear he
        generalize he : ys.getD k ByteArray.empty = t at *
        have HF := Lib.hid he
        clear he
        by_cases hst : s = t
        · subst hst
          go_wp2
          go_quiet (fail)
          go_wp2
          go_roundw
          case rel => exact ⟨k + 1, by omega, by go_num, same_take k (by have := hX.len; omega) (by have := hY.len; omega) hall.out (by rw [HE.out, HF.out]), below_drewN hBw _⟩
          case measure => simp [intOf]; omega
        · have hne : (s.toList == t.toList) = false := by
            rw [beq_eq_false_iff_ne]
            exact fun h => hst (toList_inj h)
          have HS := Lib.hid hst
          clear hst
          go_wp2
          go_quiet (fail)
          go_wp2
          go_ret
          exact ⟨ret_bool (same_not k (by rw [HE.out, HF.out]; exact HS.out)), below_drewN hBw _⟩
      · obtain rfl : k = n := by omega
        have hall' := hall.out
        rw [List.take_of_length_le (by rw [hX.len]; exact Nat.le_refl _), List.take_of_length_le (by rw [hY.len]; exact Nat.le_refl _)] at hall'
        have HA := Lib.hid hall'
        clear hall'
        go_wp2
        go_ret
        exact ⟨ret_bool (by unfold sameB; rw [HA.out]; simp), hBw⟩
  · have hne : ((n : Int) == (m : Int)) = false := by simp only [beq_eq_false_iff_ne, ne_eq]; omega
    have hl := Lib.hid hnm
    clear hnm
    go_enter Try.func20, Try.ntmps20
    go_wp2
    go_ret
    exact ⟨ret_bool (same_len (by rw [hX.len, hY.len]; exact hl.out)), Below.refl _ _⟩
theorem same_self (ss : List ByteArray) : sameB ss ss = true := by unfold sameB; exact decide_eq_true rfl
set_option maxHeartbeats 1600000 in
set_option maxRecDepth 100000 in
theorem same4_any (oa : Option Addr) (n cap : Nat) (ob : Option Addr) (m cbp : Nat) (S : St) (w : World) (hX : Rd w oa n cap S.ss) (hY : Rd w ob m cbp S.ss) (hn : n ≤ 1000) :
    Calls Try.prog 16 #[.agg #[.slice oa n cap, .int .i64 S.g, .int .i64 S.u, .int .i64 S.t, .bool S.d], .agg #[.slice ob m cbp, .int .i64 S.g, .int .i64 S.u, .int .i64 S.t, .bool S.d]] w fun e w' => e = .returned (.bool true) ∧ Below w.heap.size w w' := by
  obtain ⟨W0, hW0⟩ : ∃ W0, W0 = (w.alloc (.cells #[.slice oa n cap, .int .i64 S.g, .int .i64 S.u, .int .i64 S.t, .bool S.d] 26)).alloc (.cells #[.slice ob m cbp, .int .i64 S.g, .int .i64 S.u, .int .i64 S.t, .bool S.d] 26) := ⟨_, rfl⟩
  have hB0 : Below w.heap.size w W0 := by rw [hW0]; exact (below_alloc w _).alloc (by simp) _
  have X0 : SVar W0 w.heap.size oa n cap S := by rw [hW0]; exact (SVar.new hX).keep (below_alloc _ _)
  have Y0 : SVar W0 (w.heap.size + 1) ob m cbp S := by
    refine ⟨?_, hY.below hB0 (Nat.le_refl _)⟩
    unfold SRow
    rw [hW0]
    have := heap_alloc_new (w.alloc (.cells #[.slice oa n cap, .int .i64 S.g, .int .i64 S.u, .int .i64 S.t, .bool S.d] 26)) (.cells #[.slice ob m cbp, .int .i64 S.g, .int .i64 S.u, .int .i64 S.t, .bool S.d] 26)
    simpa using this
  have hnm : m ≤ 1000 := by rw [← hY.len, hX.len]; exact hn
  have HS := Lib.hid (same_any oa n cap S.ss ob m cbp S.ss W0 X0.rd Y0.rd hn hnm)
  rw [same_self] at HS
  have HW := Lib.hid hW0
  clear hW0 hX hY
  obtain ⟨v0, v1, v2, v3, v4⟩ := X0.cells
  obtain ⟨y0, y1, y2, y3, y4⟩ := Y0.cells
  go_enter Try.func16, Try.ntmps16
  go_wp2_with fail
  rw [← HW.out]
  clear HW
  refine HS.out.mono ?_
  rintro e w1 ⟨rfl, hB⟩
  have X1 := X0.keep hB
  have Y1 := Y0.keep hB
  have hBB := hB0.trans (hB.mono hB0.size)
  clear v0 v1 v2 v3 v4 y0 y1 y2 y3 y4 X0 Y0 hB HS
  obtain ⟨v0, v1, v2, v3, v4⟩ := X1.cells
  obtain ⟨y0, y1, y2, y3, y4⟩ := Y1.cells
  cases hd : S.d
  all_goals
    rw [hd] at v4 y4
    clear hd
    go_wp2_with fail
    go_ret
    exact ⟨rfl, hBB⟩
set_option maxHeartbeats 3200000 in
set_option maxRecDepth 100000 in
theorem alive_any (w : World) :
    Calls Try.prog 15 #[] w fun e w' => e = .returned (.bool true) ∧ Below w.heap.size w w' := by
  obtain ⟨S1, S2, e1, e2, e3, e4, e5, e6, e7, e8, e9, e10⟩ := alive_facts
  generalize hS0 : newS 10 = S0 at *
  have HN : Hid (∀ wx, Calls Try.prog 11 #[.int .i64 10] wx fun e w' => TellS e w' S0 0 ∧ Below wx.heap.size wx w') := by
    intro wx
    have := new4_any 10 wx
    rw [hS0, e1] at this
    exact this
  have HA : Hid (∀ oa n cap wx, Rd wx oa n cap S0.ss → Calls Try.prog 21 #[.agg #[.slice oa n cap, .int .i64 S0.g, .int .i64 S0.u, .int .i64 S0.t, .bool S0.d], .string ⟨#[97]⟩, .agg #[.int .i64 0, .int .i64 0]] wx fun e w' => TellS e w' S1 0 ∧ Below wx.heap.size wx w') := by
    intro oa n cap wx hR
    have := append_any oa n cap S0 ⟨#[97]⟩ (0, 0) wx hR (by have := hR.len; omega) (by unfold maxLen; decide)
    rw [e2, e3] at this
    exact this
  have HB : Hid (∀ oa n cap wx, Rd wx oa n cap S1.ss → Calls Try.prog 21 #[.agg #[.slice oa n cap, .int .i64 S1.g, .int .i64 S1.u, .int .i64 S1.t, .bool S1.d], .string ⟨#[98]⟩, .agg #[.int .i64 2, .int .i64 60]] wx fun e w' => TellS e w' S2 9 ∧ Below wx.heap.size wx w') := by
    intro oa n cap wx hR
    have := append_any oa n cap S1 ⟨#[98]⟩ (2, 60) wx hR (by have := hR.len; omega) (by unfold maxLen; decide)
    rw [e4, e5] at this
    exact this
  have HC : Hid (∀ oa n cap wx, Rd wx oa n cap S2.ss → Calls Try.prog 12 #[.agg #[.slice oa n cap]] wx fun e w' => TellB e w' (bootS S2.ss) [⟨#[97]⟩] 0 ∧ Below wx.heap.size wx w') := by
    intro oa n cap wx hR
    have := boot_any oa n cap S2.ss wx hR (by have := hR.len; omega)
    rw [e6, e7] at this
    exact this
  clear e1 e2 e3 e4 e5 e6 e7 e8 e9 e10 hS0
  generalize bootS S2.ss = S3 at *
  go_enter Try.func15, Try.ntmps15
  go_wp2_with fail
  refine (HN.out _).mono ?_
  rintro e w1 ⟨⟨oa, n, cap, rfl, hR1⟩, hB1⟩
  have V1 := SVar.new (S := S0) hR1
  have hBB := hB1.alloc hB1.size (.cells #[.slice oa n cap, .int .i64 S0.g, .int .i64 S0.u, .int .i64 S0.t, .bool S0.d] 26)
  obtain ⟨W1, hW1⟩ : ∃ W1, W1 = w1.alloc (.cells #[.slice oa n cap, .int .i64 S0.g, .int .i64 S0.u, .int .i64 S0.t, .bool S0.d] 26) := ⟨_, rfl⟩
  rw [← hW1] at V1 hBB
  have hA1 : w.heap.size ≤ w1.heap.size := hB1.size
  have HW1 := Lib.hid hW1
  clear hR1 hB1 hW1
  go_wp2_with fail
  rw [← HW1.out]
  refine (HA.out _ _ _ _ V1.rd).mono ?_
  rintro e w2 ⟨⟨ob, n2, c2, rfl, hR2⟩, hB2⟩
  have V2 := V1.keep hB2
  have hBB2 := hBB.trans (hB2.mono hBB.size)
  obtain ⟨W2, hW2⟩ : ∃ W2, W2 = put5 w2 w1.heap.size (.slice ob n2 c2) S1.g S1.u S1.t S1.d := ⟨_, rfl⟩
  have V3 : SVar W2 w1.heap.size ob n2 c2 S1 := hW2 ▸ V2.put hR2 _ _ _ _
  have hB3 : Below w.heap.size w W2 := hW2 ▸ put_below hBB2 hA1 _ _ _ _ _
  obtain ⟨v0, v1, v2, v3, v4⟩ := V2.cells
  have vf := V2.row.free
  unfold put5 at hW2
  have HW2 := Lib.hid hW2
  obtain ⟨q0, q1, q2, q3, q4⟩ := V3.cells
  rw [hW2] at q0 q1 q2 q3 q4
  clear HW1 V1 hBB hB2 hR2 hW2
  go_wp2_with fail
  rw [← HW2.out]
  clear HW2 q0 q1 q2 q3 q4 v0 v1 v2 v3 v4 vf V2 hBB2
  refine (HB.out _ _ _ _ V3.rd).mono ?_
  rintro e w3 ⟨⟨oc, n3, c3, rfl, hR3⟩, hB3'⟩
  have V4 := SVar.new (S := S2) hR3
  have hB4 := (hB3.trans (hB3'.mono hB3.size)).alloc (Nat.le_trans hB3.size hB3'.size) (.cells #[.slice oc n3 c3, .int .i64 S2.g, .int .i64 S2.u, .int .i64 S2.t, .bool S2.d] 26)
  have y0 := V4.row.at0
  go_wp2_with fail
  refine (HC.out _ _ _ _ V4.rd).mono ?_
  rintro e w5 ⟨⟨od, n5, c5, ol, nl, cl, rfl, hR5, hL5⟩, hB5⟩
  have hB6 := hB4.trans (hB5.mono hB4.size)
  obtain rfl : 1 = nl := hL5.len
  obtain ⟨gl, rfl, hc⟩ := hL5.cell 0 (by omega)
  have hc2 := keepC (below_alloc w5 (.cells #[.slice od n5 c5, .int .i64 S3.g, .int .i64 S3.u, .int .i64 S3.t, .bool S3.d] 26)) hc
  have hB7 := hB6.alloc hB6.size (.cells #[.slice od n5 c5, .int .i64 S3.g, .int .i64 S3.u, .int .i64 S3.t, .bool S3.d] 26)
  clear hc y0
  go_wp2_with fail
  go_ret
  exact ⟨rfl, hB7⟩
end Go.Proofs.Ytmjbhmmcpjhmcaa
