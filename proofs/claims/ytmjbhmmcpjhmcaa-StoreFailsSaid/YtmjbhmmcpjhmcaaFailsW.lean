/-
  The walk of StoreFails: a record that is not written leaves no trace.
-/
import Derived.Test.YtmjbhmmcpjhmcaaLogY
import Derived.Deep.DrawnRows
namespace Go.Proofs.Ytmjbhmmcpjhmcaa.storeFails
open Go.RowKit
set_option linter.unusedVariables false
attribute [local go_sem ↓] Go.wp_at_zero Go.wp_at_succ

theorem cut96 (p : ByteArray) : (cutS 96 p).size ≤ 96 := cut_size 96 p
theorem appE_same {S : St} {p q : ByteArray} (hp : p.size ≤ 96) (hq : q.size ≤ 96) : appE S p (1, 0) = appE S q (0, 0) := by
  unfold appE
  rw [long_small hp, long_small hq, show faultB (1, 0) = true from by decide, show faultB (0, 0) = true from by decide]
/-- what is not written leaves no trace -/
theorem facts {S : St} {p q : ByteArray} (hp : p.size ≤ 96) (hq : q.size ≤ 96) :
    (appS S p (1, 0) = St.zero ∧ appW S p (1, 0) = appW S q (0, 0) ∧ appW S p (1, 0) ≠ 8 ∧ appW S p (1, 0) ≠ 0) ∨ (appS S p (1, 0) = S ∧ appW S p (1, 0) = 8 ∧ appW S q (0, 0) = 0) := by
  have he := appE_same (S := S) hp hq
  by_cases h : appE S p (1, 0) = 0
  · right
    have m1 : appM S p (1, 0) = (S.ss, S.d, 8) := by unfold appM; rw [wr_not]
    have m2 : (appM S q (0, 0)).2.2 = 0 := by unfold appM; rw [wr_zero]
    unfold appS appW
    rw [← he, if_pos h, if_pos h, if_pos h, m1, m2]
    exact ⟨rfl, rfl, rfl⟩
  · left
    unfold appS appW
    rw [← he, if_neg h, if_neg h, if_neg h]
    refine ⟨rfl, rfl, ?_, h⟩
    unfold appE
    rw [long_small hp, show faultB (1, 0) = true from by decide]
    cases stoB S.ss S.g S.u S.t
    · simp
    · cases S.d
      · by_cases hu : S.u = roomZ S.ss
        · simp [hu]
        · simp [hu]
      · simp
theorem wr_len : ∀ (ps : List (Nat × ByteArray)) (ss : List ByteArray) (d : Bool) (fs : List (Int × Int)), (wrM ss d ps fs).1.length = ss.length := by
  intro ps
  induction ps with
  | nil => intro ss d fs; rfl
  | cons q r ih =>
    intro ss d fs
    unfold wrM
    split
    · rfl
    · split
      · exact torn_len _ _ _ _
      · rw [ih, List.length_set]
theorem append_len (S : St) (p : ByteArray) (f : Int × Int) : (appS S p f).ss.length ≤ S.ss.length := by
  unfold appS
  split
  · show (appM S p f).1.length ≤ _
    unfold appM
    rw [wr_len]
    exact Nat.le_refl _
  · exact Nat.zero_le _
set_option maxRecDepth 100000 in
set_option maxHeartbeats 1000000 in
theorem walk (oa : Option Addr) (n cap : Nat) (S0 : St) (p0 q0 : ByteArray) (w : World) (hA : Arg w oa n cap S0.ss) (hp : p0.size ≤ maxLen) (hq : q0.size ≤ maxLen) :
    Calls Try.prog 8 #[.agg #[.slice oa n cap, .int .i64 S0.g, .int .i64 S0.u, .int .i64 S0.t, .bool S0.d], .string p0, .string q0] w fun e w' => e = .returned (.bool true) ∧ Below w.heap.size w w' := by
  unfold maxLen at hp hq
  obtain ⟨W0, hW0⟩ : ∃ W0, W0 = w.alloc (.cells #[.slice oa n cap, .int .i64 S0.g, .int .i64 S0.u, .int .i64 S0.t, .bool S0.d] 26) := ⟨_, rfl⟩
  have hB0 : Below w.heap.size w W0 := by rw [hW0]; exact below_alloc w _
  have A0 : SRow W0 w.heap.size (.slice oa n cap) S0.g S0.u S0.t S0.d := by rw [hW0]; exact heap_alloc_new w _
  have hA0 : Arg W0 oa n cap S0.ss := ⟨hA.len, hA.room, hA.most, hA.each, fun i hi => by
    obtain ⟨b, off, h1, h2⟩ := hA.cell i hi
    exact ⟨b, off, h1, keepC hB0 h2⟩⟩
  have hAd : Arg W0.drew oa n cap S0.ss := ⟨hA0.len, hA0.room, hA0.most, hA0.each, hA0.cell⟩
  have HW := Lib.hid hW0
  clear hW0 hA hA0
  obtain ⟨v0, v1, v2, v3, v4⟩ := A0.cells
  have hw0 : w.heap.size < W0.heap.size := by rw [HW.out]; simp
  go_enter Try.func8, Try.ntmps8
  go_wp2_with fail
  rw [← HW.out]
  clear HW
  refine wp_region_any (by kernel_rfl) ?_
  change wpAny _ _ _ _ _ _ _ (World.drew _)
  have A1 : SRow W0.drew w.heap.size (.slice oa n cap) S0.g S0.u S0.t S0.d := A0
  have hB1 : Below w.heap.size w W0.drew := hB0.drew
  clear v0 v1 v2 v3 v4 A0 hB0
  have hw1 : w.heap.size < W0.drew.heap.size := hw0
  generalize W0.drew = W1 at *
  clear hw0
  refine wpAny_take (i := 2) (v := .string p0) rfl (by kernel_rfl) (by kernel_rfl) (by kernel_rfl) (fun _ _ _ h => h) (Or.inl ⟨by rfl, fun v => by go_simp⟩) ?_
  refine wpAny_take (i := 3) (v := .string p0) rfl (by kernel_rfl) (by kernel_rfl) (by kernel_rfl) (fun _ _ _ h => h) (Or.inl ⟨by rfl, fun v => by go_simp⟩) ?_
  refine wpAny_take (i := 4) (v := .int .i64 (p0.size : Int)) rfl (by kernel_rfl) (by kernel_rfl) (by kernel_rfl) (fun _ _ _ h => h) (Or.inl ⟨by rfl, fun v => by go_simp⟩) ?_
  refine wpAny_take (i := 5) (v := .int .i64 ((min p0.size 96 : Nat) : Int)) rfl (by kernel_rfl) (by kernel_rfl) (by kernel_rfl) (fun _ _ _ h => h) (Or.inl ⟨by rfl, fun v => ?_⟩) ?_
  · by_cases h : p0.size ≤ 96
    · rw [Nat.min_eq_left (show p0.size ≤ 96 from h)]
      go_simp
      intro h
      omega
    · rw [Nat.min_eq_right (show 96 ≤ p0.size by omega)]
      go_simp
      intro h
      omega
  refine wpAny_take (i := 6) (v := .string (cutS 96 p0)) rfl (by kernel_rfl) (by kernel_rfl) (by kernel_rfl) (fun _ _ _ h => h) (Or.inl ⟨by rfl, fun v => ?_⟩) ?_
  · by_cases h : 96 < p0.size
    · rw [Nat.min_eq_right (show 96 ≤ p0.size by omega), cut_pos h]
      go_simp
      intro h2
      exact absurd h2 (by omega)
    · rw [Nat.min_eq_left (show p0.size ≤ 96 by omega), cut_neg h]
      go_simp
  go_simp
  refine wpAny_take (i := 7) (v := .string q0) rfl (by kernel_rfl) (by kernel_rfl) (by kernel_rfl) (fun _ _ _ h => h) (Or.inl ⟨by rfl, fun v => by go_simp⟩) ?_
  refine wpAny_take (i := 8) (v := .string q0) rfl (by kernel_rfl) (by kernel_rfl) (by kernel_rfl) (fun _ _ _ h => h) (Or.inl ⟨by rfl, fun v => by go_simp⟩) ?_
  refine wpAny_take (i := 9) (v := .int .i64 (q0.size : Int)) rfl (by kernel_rfl) (by kernel_rfl) (by kernel_rfl) (fun _ _ _ h => h) (Or.inl ⟨by rfl, fun v => by go_simp⟩) ?_
  refine wpAny_take (i := 10) (v := .int .i64 ((min q0.size 96 : Nat) : Int)) rfl (by kernel_rfl) (by kernel_rfl) (by kernel_rfl) (fun _ _ _ h => h) (Or.inl ⟨by rfl, fun v => ?_⟩) ?_
  · by_cases h : q0.size ≤ 96
    · rw [Nat.min_eq_left (show q0.size ≤ 96 from h)]
      go_simp
      intro h
      omega
    · rw [Nat.min_eq_right (show 96 ≤ q0.size by omega)]
      go_simp
      intro h
      omega
  refine wpAny_take (i := 11) (v := .string (cutS 96 q0)) rfl (by kernel_rfl) (by kernel_rfl) (by kernel_rfl) (fun _ _ _ h => h) (Or.inl ⟨by rfl, fun v => ?_⟩) ?_
  · by_cases h : 96 < q0.size
    · rw [Nat.min_eq_right (show 96 ≤ q0.size by omega), cut_pos h]
      go_simp
      intro h2
      exact absurd h2 (by omega)
    · rw [Nat.min_eq_left (show q0.size ≤ 96 by omega), cut_neg h]
      go_simp
  go_simp
  refine wpAny_ready (rs := [0]) (by kernel_rfl) (by simp) ?_
  refine AllReady.cons (o := ⟨some 13, .load 26 (.tmp 3), _, _, _, none⟩) rfl (fun K hK => ?_) AllReady.nil
  rw [if_pos (show Region.wanted _ _ = true from rfl)]
  refine wp_load5 rfl A1 ?_
  refine hK _ _ ?_
  clear hK K
  refine wpAny_ready (rs := [1]) (by kernel_rfl) (by simp) ?_
  refine AllReady.cons rfl (fun K hK => ?_) AllReady.nil
  go_simp
  refine (scut_any oa n cap S0.ss S0.g S0.u S0.t S0.d W1 hAd).mono ?_
  rintro e w2 ⟨⟨ob, k, c, rfl, hR2⟩, hB2⟩
  dsimp only at hR2 ⊢
  have A2 := A1.keep hB2
  have hBB := hB1.trans (hB2.mono hB1.size)
  have hw2 := Nat.lt_of_lt_of_le hw1 hB2.size
  refine hK _ _ ?_
  clear hK K hAd hB2 A1 hB1 hw1
  refine wpAny_ready (rs := [12]) (by kernel_rfl) (by simp) ?_
  refine AllReady.cons (o := ⟨none, .store 26 (.tmp 3) (.tmp 14), 0, _, _, none⟩) rfl (fun K hK => ?_) AllReady.nil
  rw [if_pos (show Region.wanted _ _ = true from rfl)]
  refine wp_store5 rfl rfl A2 ?_
  obtain ⟨W3, hW3⟩ : ∃ W3, W3 = put5 w2 w.heap.size (.slice ob k c) S0.g S0.u S0.t S0.d := ⟨_, rfl⟩
  have V3 : SVar W3 w.heap.size ob k c ⟨fewM 132 S0.ss, S0.g, S0.u, S0.t, S0.d⟩ := hW3 ▸ (⟨A2.put _ _ _ _ _, hR2.put A2 ⟨_, _, _, rfl⟩ _ _ _ _ _⟩ : SVar (put5 w2 w.heap.size (.slice ob k c) S0.g S0.u S0.t S0.d) w.heap.size ob k c ⟨fewM 132 S0.ss, S0.g, S0.u, S0.t, S0.d⟩)
  have hB3 : Below w.heap.size w W3 := hW3 ▸ put_below hBB (Nat.le_refl _) _ _ _ _ _
  have hw3 : w.heap.size < W3.heap.size := by rw [hW3]; unfold put5; simpa [World.setCell] using hw2
  rw [← hW3]
  refine hK _ _ ?_
  clear hK K hW3 hBB hw2 A2 hR2
  refine wpAny_ready (rs := [13]) (by kernel_rfl) (by simp) ?_
  refine AllReady.cons rfl (fun K hK => ?_) AllReady.nil
  go_simp
  refine hK _ _ ?_
  clear hK K
  refine wpAny_ready (rs := [14]) (by kernel_rfl) (by simp) ?_
  refine AllReady.cons rfl (fun K hK => ?_) AllReady.nil
  go_simp
  refine hK _ _ ?_
  clear hK K
  refine wpAny_done (by kernel_rfl) ?_ _
  have hkn : k ≤ 1000 := by
    have h1 := V3.rd.len
    have h2 := fewM_length 132 S0.ss
    dsimp only at h1
    omega
  have hp9 := cut96 p0
  have hq9 := cut96 q0
  have HX := Lib.hid (facts (S := ⟨fewM 132 S0.ss, S0.g, S0.u, S0.t, S0.d⟩) hp9 hq9)
  have hpm : (cutS 96 p0).size ≤ maxLen := by unfold maxLen; omega
  have hqm : (cutS 96 q0).size ≤ maxLen := by unfold maxLen; omega
  obtain ⟨S, hS⟩ : ∃ S : St, S = ⟨fewM 132 S0.ss, S0.g, S0.u, S0.t, S0.d⟩ := ⟨_, rfl⟩
  rw [← hS] at V3 HX
  have e1 : S0.g = S.g := by rw [hS]
  have e2 : S0.u = S.u := by rw [hS]
  have e3 : S0.t = S.t := by rw [hS]
  have e4 : S0.d = S.d := by rw [hS]
  rw [e1, e2, e3, e4]
  generalize cutS 96 p0 = p at *
  generalize cutS 96 q0 = q at *
  clear hS e1 e2 e3 e4 hp hq hp9 hq9
  have V3' := V3
  obtain ⟨v0, v1, v2, v3, v4⟩ := V3.cells
  have HA := Lib.hid (fun wx (h : Rd wx ob k c S.ss) => append_any ob k c S p (1, 0) wx h hkn hpm)
  have HB := Lib.hid (fun ox nx cx wx (h : Rd wx ox nx cx S.ss) (hn : nx ≤ 1000) => append_any ox nx cx S q (0, 0) wx h hn hqm)
  rcases HX.out with ⟨x1, x2, x3, x4⟩ | ⟨x1, x2, x3⟩
  · rw [x1] at HA
    rw [← x2] at HB
    have b1 : (appW S p (1, 0) == 8) = false := by rw [beq_eq_false_iff_ne]; exact x3
    have b2 : (appW S p (1, 0) != 8) = true := by rw [bne, b1]; rfl
    have b3 : (appW S p (1, 0) == 0) = false := by rw [beq_eq_false_iff_ne]; exact x4
    have b4 : (appW S p (1, 0) != 0) = true := by rw [bne, b3]; rfl
    clear x1 x2 x3 x4 HX
    generalize appW S p (1, 0) = x at *
    generalize appS S q (0, 0) = Sb at *
    go_wp2_with fail
    refine (HA.out _ V3.rd).mono ?_
    rintro e w4 ⟨⟨oa1, n1, c1, rfl, hR4⟩, hB4⟩
    have V4 := (V3.keep hB4).keep (below_alloc w4 (.cells #[.slice oa1 n1 c1, .int .i64 St.zero.g, .int .i64 St.zero.u, .int .i64 St.zero.t, .bool St.zero.d] 26))
    have A4 := SVar.new (S := St.zero) hR4
    have hBB := (hB3.trans (hB4.mono hB3.size)).alloc (Nat.le_trans hB3.size hB4.size) (.cells #[.slice oa1 n1 c1, .int .i64 St.zero.g, .int .i64 St.zero.u, .int .i64 St.zero.t, .bool St.zero.d] 26)
    clear v0 v1 v2 v3 v4 hR4 hB4 V3 V3' hB3
    obtain ⟨v0, v1, v2, v3, v4⟩ := V4.cells
    go_wp2_with fail
    refine (HB.out _ _ _ _ V4.rd hkn).mono ?_
    rintro e w5 ⟨⟨ob1, n2, c2, rfl, hR5⟩, hB5⟩
    have A5 := (A4.keep hB5).keep (below_alloc w5 (.cells #[.slice ob1 n2 c2, .int .i64 Sb.g, .int .i64 Sb.u, .int .i64 Sb.t, .bool Sb.d] 26))
    have hB6 := (hBB.trans (hB5.mono hBB.size)).alloc (Nat.le_trans hBB.size hB5.size) (.cells #[.slice ob1 n2 c2, .int .i64 Sb.g, .int .i64 Sb.u, .int .i64 Sb.t, .bool Sb.d] 26)
    clear v0 v1 v2 v3 v4 A4 hR5 hB5 V4 hBB
    go_wp2_with fail
    refine (alive_any _).mono ?_
    rintro e w6 ⟨rfl, hB⟩
    have A6 := A5.keep hB
    have hB7 := hB6.trans (hB.mono hB6.size)
    clear A5 hB6 hB
    obtain ⟨v0, v1, v2, v3, v4⟩ := A6.cells
    go_wp2_with fail
    refine (same4_any oa1 n1 c1 none 0 0 St.zero w6 A6.rd (Rd.nil _) (by have := A6.rd.len; exact this ▸ Nat.zero_le _)).mono ?_
    rintro e w7 ⟨rfl, hB⟩
    go_wp2_with fail
    go_ret
    exact ⟨rfl, hB7.trans (hB.mono hB7.size)⟩
  · rw [x1, x2] at HA
    rw [x3] at HB
    have HLB : Hid ((appS S q (0, 0)).ss.length ≤ 1000) := by
      have h1 := V3.rd.len
      have h2 := append_len S q (0, 0)
      show _ ≤ _
      omega
    clear x1 x2 x3 HX
    generalize appS S q (0, 0) = Sb at *
    go_wp2_with fail
    refine (HA.out _ V3.rd).mono ?_
    rintro e w4 ⟨⟨oa1, n1, c1, rfl, hR4⟩, hB4⟩
    have hn1 : n1 = k := hR4.len.symm.trans V3.rd.len
    have V4 := (V3.keep hB4).keep (below_alloc w4 (.cells #[.slice oa1 n1 c1, .int .i64 S.g, .int .i64 S.u, .int .i64 S.t, .bool S.d] 26))
    have A4 := SVar.new (S := S) hR4
    have hBB := (hB3.trans (hB4.mono hB3.size)).alloc (Nat.le_trans hB3.size hB4.size) (.cells #[.slice oa1 n1 c1, .int .i64 S.g, .int .i64 S.u, .int .i64 S.t, .bool S.d] 26)
    have HN := Lib.hid hn1
    clear v0 v1 v2 v3 v4 hR4 hB4 V3 V3' hB3 hn1
    obtain ⟨v0, v1, v2, v3, v4⟩ := V4.cells
    go_wp2_with fail
    refine (HB.out _ _ _ _ V4.rd hkn).mono ?_
    rintro e w5 ⟨⟨ob1, n2, c2, rfl, hR5⟩, hB5⟩
    have V5 := (V4.keep hB5).keep (below_alloc w5 (.cells #[.slice ob1 n2 c2, .int .i64 Sb.g, .int .i64 Sb.u, .int .i64 Sb.t, .bool Sb.d] 26))
    have A5 := (A4.keep hB5).keep (below_alloc w5 (.cells #[.slice ob1 n2 c2, .int .i64 Sb.g, .int .i64 Sb.u, .int .i64 Sb.t, .bool Sb.d] 26))
    have B5 := SVar.new (S := Sb) hR5
    have hB6 := (hBB.trans (hB5.mono hBB.size)).alloc (Nat.le_trans hBB.size hB5.size) (.cells #[.slice ob1 n2 c2, .int .i64 Sb.g, .int .i64 Sb.u, .int .i64 Sb.t, .bool Sb.d] 26)
    clear v0 v1 v2 v3 v4 A4 hR5 hB5 V4 hBB
    obtain ⟨v0, v1, v2, v3, v4⟩ := A5.cells
    go_wp2_with fail
    refine (HB.out _ _ _ _ A5.rd (by rw [HN.out]; exact hkn)).mono ?_
    rintro e w7 ⟨⟨oc1, n3, c3, rfl, hR7⟩, hB7⟩
    have V7 := (V5.keep hB7).keep (below_alloc w7 (.cells #[.slice oc1 n3 c3, .int .i64 Sb.g, .int .i64 Sb.u, .int .i64 Sb.t, .bool Sb.d] 26))
    have A7 := (A5.keep hB7).keep (below_alloc w7 (.cells #[.slice oc1 n3 c3, .int .i64 Sb.g, .int .i64 Sb.u, .int .i64 Sb.t, .bool Sb.d] 26))
    have B7 := (B5.keep hB7).keep (below_alloc w7 (.cells #[.slice oc1 n3 c3, .int .i64 Sb.g, .int .i64 Sb.u, .int .i64 Sb.t, .bool Sb.d] 26))
    have C7 := SVar.new (S := Sb) hR7
    have hB8 := (hB6.trans (hB7.mono hB6.size)).alloc (Nat.le_trans hB6.size hB7.size) (.cells #[.slice oc1 n3 c3, .int .i64 Sb.g, .int .i64 Sb.u, .int .i64 Sb.t, .bool Sb.d] 26)
    clear v0 v1 v2 v3 v4 A5 B5 V5 hR7 hB7 hB6
    go_wp2_with fail
    refine (alive_any _).mono ?_
    rintro e w8 ⟨rfl, hB⟩
    have V8 := V7.keep hB
    have A8 := A7.keep hB
    have B8 := B7.keep hB
    have C8 := C7.keep hB
    have hB9 := hB8.trans (hB.mono hB8.size)
    clear A7 B7 C7 V7 hB8 hB
    obtain ⟨v0, v1, v2, v3, v4⟩ := V8.cells
    obtain ⟨a0, a1, a2, a3, a4⟩ := A8.cells
    go_wp2_with fail
    refine (same4_any oa1 n1 c1 ob k c S w8 A8.rd V8.rd (by rw [HN.out]; exact hkn)).mono ?_
    rintro e w9 ⟨rfl, hB⟩
    have B9 := B8.keep hB
    have C9 := C8.keep hB
    have hB10 := hB9.trans (hB.mono hB9.size)
    have hSb : n3 ≤ 1000 := by
      have h1 := C9.rd.len
      have h2 := HLB.out
      omega
    clear v0 v1 v2 v3 v4 a0 a1 a2 a3 a4 A8 B8 C8 V8 hB9 hB
    obtain ⟨v0, v1, v2, v3, v4⟩ := B9.cells
    obtain ⟨a0, a1, a2, a3, a4⟩ := C9.cells
    go_wp2_with fail
    refine (same4_any oc1 n3 c3 ob1 n2 c2 Sb w9 C9.rd B9.rd hSb).mono ?_
    rintro e w10 ⟨rfl, hB⟩
    go_wp2_with fail
    go_ret
    exact ⟨rfl, hB10.trans (hB.mono hB10.size)⟩
end Go.Proofs.Ytmjbhmmcpjhmcaa.storeFails
