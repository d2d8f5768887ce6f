/-
  The document's own of duties: the same rows, which comes ahead, the same duties.
-/
import Derived.Test.YtaiacohnhhicpaaDutM
import Derived.Test.YtaiacohnhhicpaaLabE
import Derived.StillTailTactics
namespace Go.Proofs.Ytaiacohnhhicpaa
open Go.RowKit Go.Shelf
set_option linter.unusedVariables false

theorem neqL_any (a b s t : ByteArray) (w : World) (r : Bool) (hr : (a.toList == s.toList && b.toList == t.toList) = r) :
    (binOp .neq 61 (.agg #[.string a, .string b]) (.agg #[.string s, .string t])).run Try.prog w = .ok (.bool (!r)) w := by
  have h := eqlL a b s t w
  rw [hr] at h
  rw [run_eql_struct] at h
  rw [run_neq_struct]
  generalize (Op.equalIn 10000 61 (.agg #[.string a, .string b]) (.agg #[.string s, .string t])).run Try.prog w = r at *
  cases r with
  | ok b w1 =>
    simp [Result.andThen] at h ⊢
    obtain ⟨h1, h2⟩ := h
    exact ⟨by rw [h1], h2⟩
  | halt x w1 => simp [Result.andThen] at h
theorem pair_eq (x y : L2) : (x.1.toList == y.1.toList && x.2.toList == y.2.toList) = decide (x = y) := by
  rw [Bool.eq_iff_iff]
  simp only [Bool.and_eq_true, beq_iff_eq, decide_eq_true_eq]
  constructor
  · rintro ⟨h1, h2⟩
    exact Prod.ext (toList_inj h1) (toList_inj h2)
  · rintro rfl
    exact ⟨rfl, rfl⟩
theorem sameR_len {l m : List L2} (h : l.length ≠ m.length) : sameR l m = false := by
  unfold sameR
  rw [decide_eq_false_iff_not]
  rintro rfl
  exact h rfl
theorem sameR_at {l m : List L2} (k : Nat) (hk : k < l.length) (hk2 : k < m.length) (h : l.getD k zL ≠ m.getD k zL) : sameR l m = false := by
  unfold sameR
  rw [decide_eq_false_iff_not]
  rintro rfl
  exact h rfl
theorem sameR_all {l m : List L2} (hl : l.length = m.length) (h : ∀ i, i < l.length → l.getD i zL = m.getD i zL) : sameR l m = true := by
  unfold sameR
  rw [decide_eq_true_eq]
  apply List.ext_getElem hl
  intro i h1 h2
  have := h i h1
  rwa [getD_L l i h1, getD_L m i h2] at this
set_option maxRecDepth 100000 in
set_option maxHeartbeats 1600000 in
theorem same_any (oa : Option Addr) (n cap : Nat) (ob : Option Addr) (n' cap' : Nat) (l m : List L2) (w : World) (h : Ls w oa n cap l) (h' : Ls w ob n' cap' m) (hn : n ≤ 4611686018427387904) :
    Calls Try.prog 9 #[.slice oa n cap, .slice ob n' cap'] w fun e w' => e = .returned (.bool (sameR l m)) ∧ Below w.heap.size w w' := by
  have hl := h.len
  have hr := h.room
  have hl' := h'.len
  have hr' := h'.room
  by_cases hnn : n = n'
  · subst hnn
    have HL := Lib.hid hl
    have HL' := Lib.hid hl'
    clear hl hl'
    go_enter Try.func9, Try.ntmps9
    go_wp2_with fail
    go_loopw [5, 13] (fun _ s13 wr => ∃ k : Nat, k ≤ n ∧ s13 = .int .i64 k ∧ Below w.heap.size w wr ∧ Hid (∀ i, i < k → l.getD i zL = m.getD i zL)) (fun _ s13 _ => n - (intOf s13).toNat)
    case atStart => exact ⟨0, Nat.zero_le _, rfl, Below.refl _ _, fun i hi => absurd hi (by omega)⟩
    case round =>
      obtain ⟨k, hk, rfl, hB, HA⟩ := hrel
      by_cases hlt : k < n
      · obtain ⟨g, o, rfl, c0, c1⟩ := (h.below hB (Nat.le_refl _)).cell k hlt
        obtain ⟨g', o', rfl, d0, d1⟩ := (h'.below hB (Nat.le_refl _)).cell k hlt
        have HQ := pair_eq (l.getD k zL) (m.getD k zL)
        have HF : Hid (l.getD k zL ≠ m.getD k zL → sameR l m = false) := sameR_at k (by rw [HL.out]; exact hlt) (by rw [HL'.out]; exact hlt)
        have HN : Hid (l.getD k zL = m.getD k zL → ∀ i, i < k + 1 → l.getD i zL = m.getD i zL) := fun e i hi => by
          by_cases e2 : i = k
          · subst e2; exact e
          · exact HA.out i (by omega)
        generalize l.getD k zL = x at *
        generalize m.getD k zL = y at *
        by_cases hxy : x = y
        · have HX := Lib.hid (HN.out hxy)
          rw [decide_eq_true hxy] at HQ
          obtain ⟨s, t⟩ := x
          obtain ⟨u, v⟩ := y
          dsimp only at c0 c1 d0 d1 HQ
          have hq := fun (w : World) => neqL_any s t u v w true HQ
          clear h h' HA HQ HF HN hxy
          go_wp2_with fail
          go_quiet (fail)
          go_wp2_with fail
          go_roundw
          case rel => exact ⟨k + 1, by omega, by go_num, belowN hB _, HX⟩
          case measure => simp [intOf]; omega
        · have HX := Lib.hid (HF.out hxy)
          rw [decide_eq_false hxy] at HQ
          obtain ⟨s, t⟩ := x
          obtain ⟨u, v⟩ := y
          dsimp only at c0 c1 d0 d1 HQ
          have hq := fun (w : World) => neqL_any s t u v w false HQ
          clear h h' HA HQ HF HN hxy
          go_wp2_with fail
          go_quiet (fail)
          go_wp2_with fail
          go_ret
          exact ⟨retB HX.out.symm, belowN hB _⟩
      · obtain rfl : k = n := by omega
        have HX := Lib.hid (sameR_all (by rw [HL.out, HL'.out]) (fun i hi => HA.out i (by rw [HL.out] at hi; exact hi)))
        clear h h' HA
        go_wp2_with fail
        go_ret
        exact ⟨retB HX.out.symm, hB⟩
  · have HX := Lib.hid (sameR_len (l := l) (m := m) (by omega))
    have hne : ((n : Int) != (n' : Int)) = true := by simp; omega
    clear h h' hl hl' hr hr'
    go_enter Try.func9, Try.ntmps9
    go_wp2_with fail
    go_ret
    exact ⟨retB HX.out.symm, Below.refl _ _⟩
theorem ltR_drop {l m : List L2} (k : Nat) (h : ∀ i, i < k → i < l.length → i < m.length → l.getD i zL = m.getD i zL) (hk : k ≤ l.length) (hk2 : k ≤ m.length) : ltR l m = ltR (l.drop k) (m.drop k) := by
  induction k with
  | zero => simp
  | succ k ih =>
    rw [ih (fun i hi => h i (by omega)) (by omega) (by omega), List.drop_eq_getElem_cons (show k < l.length by omega), List.drop_eq_getElem_cons (show k < m.length by omega), ltR, if_pos]
    have := h k (by omega) (by omega) (by omega)
    rwa [getD_L l k (by omega), getD_L m k (by omega)] at this
theorem ltR_at {l m : List L2} (k : Nat) (h : ∀ i, i < k → i < l.length → i < m.length → l.getD i zL = m.getD i zL) (hk : k < l.length) (hk2 : k < m.length) (hne : l.getD k zL ≠ m.getD k zL) : ltR l m = ltP (l.getD k zL) (m.getD k zL) := by
  rw [ltR_drop k h (by omega) (by omega), List.drop_eq_getElem_cons hk, List.drop_eq_getElem_cons hk2, ltR, getD_L l k hk, getD_L m k hk2]
  rw [getD_L l k hk, getD_L m k hk2] at hne
  rw [if_neg hne]
theorem ltR_end {l m : List L2} (h : ∀ i, i < l.length → i < m.length → l.getD i zL = m.getD i zL) (hk : m.length ≤ l.length) : ltR l m = false := by
  rw [ltR_drop m.length (fun i _ => h i) hk (Nat.le_refl _), List.drop_length]
  cases l.drop m.length <;> rfl
theorem ltR_done {l m : List L2} (h : ∀ i, i < l.length → i < m.length → l.getD i zL = m.getD i zL) (hk : l.length ≤ m.length) : ltR l m = decide (l.length < m.length) := by
  rw [ltR_drop l.length (fun i _ => h i) (Nat.le_refl _) hk, List.drop_length]
  cases hd : m.drop l.length with
  | nil =>
    have := congrArg List.length hd
    rw [List.length_drop, List.length_nil] at this
    rw [ltR, eq_comm, decide_eq_false_iff_not]
    omega
  | cons x r =>
    have := congrArg List.length hd
    rw [List.length_drop, List.length_cons] at this
    rw [ltR, eq_comm, decide_eq_true_eq]
    omega
theorem ltP_cases (x y : L2) : ltP x y = if ltS x.1 y.1 = true then true else if (x.1.toList == y.1.toList) = true then ltS x.2 y.2 else false := by
  unfold ltP
  cases h1 : ltS x.1 y.1 with
  | true => rfl
  | false =>
    by_cases h2 : x.1 = y.1
    · rw [h2]; simp
    · have h3 : (x.1.toList == y.1.toList) = false := by
        rw [beq_eq_false_iff_ne]
        exact fun e => h2 (toList_inj e)
      rw [h3, decide_eq_false h2]
      simp
set_option maxRecDepth 100000 in
set_option maxHeartbeats 3200000 in
theorem less_any (oa : Option Addr) (n cap : Nat) (ob : Option Addr) (n' cap' : Nat) (l m : List L2) (w : World) (h : Ls w oa n cap l) (h' : Ls w ob n' cap' m) (hn : n ≤ 4611686018427387904) :
    Calls Try.prog 24 #[.slice oa n cap, .slice ob n' cap'] w fun e w' => e = .returned (.bool (ltR l m)) ∧ Below w.heap.size w w' := by
  have hr := h.room
  have hr' := h'.room
  have HL := Lib.hid h.len
  have HL' := Lib.hid h'.len
  go_enter Try.func24, Try.ntmps24
  go_wp2_with fail
  go_loopw [5, 8] (fun _ s8 wr => ∃ k : Nat, k ≤ n ∧ k ≤ n' ∧ s8 = .int .i64 k ∧ Below w.heap.size w wr ∧ Hid (∀ i, i < k → l.getD i zL = m.getD i zL)) (fun _ s8 _ => n - (intOf s8).toNat)
  case atStart => exact ⟨0, Nat.zero_le _, Nat.zero_le _, rfl, Below.refl _ _, fun i hi => absurd hi (by omega)⟩
  case round =>
    obtain ⟨k, hk, hk', rfl, hB, HA⟩ := hrel
    by_cases hlt : k < n
    · by_cases hlt' : k < n'
      · obtain ⟨g, o, rfl, c0, c1⟩ := (h.below hB (Nat.le_refl _)).cell k hlt
        obtain ⟨g', o', rfl, d0, d1⟩ := (h'.below hB (Nat.le_refl _)).cell k hlt'
        have HQ := pair_eq (l.getD k zL) (m.getD k zL)
        have HF : Hid (l.getD k zL ≠ m.getD k zL → ltR l m = ltP (l.getD k zL) (m.getD k zL)) := ltR_at k (fun i hi _ _ => HA.out i hi) (by rw [HL.out]; exact hlt) (by rw [HL'.out]; exact hlt')
        have HN : Hid (l.getD k zL = m.getD k zL → ∀ i, i < k + 1 → l.getD i zL = m.getD i zL) := fun e i hi => by
          by_cases e2 : i = k
          · subst e2; exact e
          · exact HA.out i (by omega)
        have hke : ((k : Int) == (n' : Int)) = false := by simp; omega
        generalize l.getD k zL = x at *
        generalize m.getD k zL = y at *
        by_cases hxy : x = y
        · have HX := Lib.hid (HN.out hxy)
          rw [decide_eq_true hxy] at HQ
          obtain ⟨s, t⟩ := x
          obtain ⟨u, v⟩ := y
          dsimp only at c0 c1 d0 d1 HQ
          have hq := fun (w : World) => neqL_any s t u v w true HQ
          clear h h' HA HQ HF HN hxy
          go_wp2_with fail
          go_quiet (fail)
          go_wp2_with fail
          go_roundw
          case rel => exact ⟨k + 1, by omega, by omega, by go_num, belowN hB _, HX⟩
          case measure => simp [intOf]; omega
        · have HX := Lib.hid (HF.out hxy)
          have HC := ltP_cases x y
          rw [decide_eq_false hxy] at HQ
          obtain ⟨s, t⟩ := x
          obtain ⟨u, v⟩ := y
          dsimp only at c0 c1 d0 d1 HQ HC
          have hq := fun (w : World) => neqL_any s t u v w false HQ
          have HC2 := Lib.hid HC
          clear HC h h' HA HQ HF HN hxy
          cases b1 : ltS s u with
          | true =>
            have HY : Hid (ltR l m = true) := by show _ = _; rw [HX.out, HC2.out, b1]; rfl
            have b1' : Op.bytesLess s.toList u.toList = true := b1
            clear HX HC2 b1
            go_wp2_with fail
            go_quiet (fail)
            go_wp2_with fail
            go_quiet (fail)
            go_wp2_with fail
            go_ret
            exact ⟨retB HY.out.symm, belowN (belowN hB _) _⟩
          | false =>
            have b1' : Op.bytesLess s.toList u.toList = false := b1
            cases b2 : (s.toList == u.toList) with
            | true =>
              cases b3 : ltS t v with
              | true =>
                have HY : Hid (ltR l m = true) := by show _ = _; rw [HX.out, HC2.out, b1, b2, b3]; rfl
                have b3' : Op.bytesLess t.toList v.toList = true := b3
                clear HX HC2 b1 b3
                go_wp2_with fail
                go_quiet (fail)
                go_wp2_with fail
                go_quiet (fail)
                go_wp2_with fail
                go_ret
                exact ⟨retB HY.out.symm, belowN (belowN hB _) _⟩
              | false =>
                have HY : Hid (ltR l m = false) := by show _ = _; rw [HX.out, HC2.out, b1, b2, b3]; rfl
                have b3' : Op.bytesLess t.toList v.toList = false := b3
                clear HX HC2 b1 b3
                go_wp2_with fail
                go_quiet (fail)
                go_wp2_with fail
                go_quiet (fail)
                go_wp2_with fail
                go_ret
                exact ⟨retB HY.out.symm, belowN (belowN hB _) _⟩
            | false =>
              have HY : Hid (ltR l m = false) := by show _ = _; rw [HX.out, HC2.out, b1, b2]; rfl
              clear HX HC2 b1
              go_wp2_with fail
              go_quiet (fail)
              go_wp2_with fail
              go_quiet (fail)
              go_wp2_with fail
              go_ret
              exact ⟨retB HY.out.symm, belowN (belowN hB _) _⟩
      · obtain rfl : k = n' := by omega
        have HX := Lib.hid (ltR_end (l := l) (m := m) (fun i _ hi => HA.out i (by rw [HL'.out] at hi; exact hi)) (by rw [HL.out, HL'.out]; omega))
        clear h h' HA
        go_wp2_with fail
        go_ret
        exact ⟨retB HX.out.symm, hB⟩
    · obtain rfl : k = n := by omega
      have HX : Hid (ltR l m = decide (k < n')) := by
        show _ = _
        rw [ltR_done (fun i hi _ => HA.out i (by rw [HL.out] at hi; exact hi)) (by rw [HL.out, HL'.out]; exact hk'), HL.out, HL'.out]
      clear h h' HA
      go_wp2_with fail
      go_ret
      exact ⟨retB HX.out.symm, hB⟩
set_option maxRecDepth 100000 in
set_option maxHeartbeats 1600000 in
theorem refAhead_any (oa : Option Addr) (n cap : Nat) (ob : Option Addr) (n' cap' : Nat) (a b : D6) (w : World) (h : Ls w oa n cap a.ls) (h' : Ls w ob n' cap' b.ls) (hn : n ≤ 4611686018427387904) :
    Calls Try.prog 10 #[aggD oa n cap a, aggD ob n' cap' b] w fun e w' => e = .returned (.bool (aheadB a b)) ∧ Below w.heap.size w w' := by
  obtain ⟨ls, rt, pl, tr, du, st⟩ := a
  obtain ⟨ls', rt', pl', tr', du', st'⟩ := b
  have HI : Hid (aheadB ⟨ls, rt, pl, tr, du, st⟩ ⟨ls', rt', pl', tr', du', st'⟩ = (decide (du < du') || (decide (du = du') && ltR ls ls'))) := rfl
  have B0 := below_alloc w (.cells #[.slice oa n cap, .int .i64 rt, .int .i64 pl, .int .i64 tr, .int .i64 du, .int .i64 st] 24)
  have B1 := B0.alloc B0.size (.cells #[.slice ob n' cap', .int .i64 rt', .int .i64 pl', .int .i64 tr', .int .i64 du', .int .i64 st'] 24)
  have V0 := (Vals.new w 24 #[.slice oa n cap, .int .i64 rt, .int .i64 pl, .int .i64 tr, .int .i64 du, .int .i64 st]).alloc (.cells #[.slice ob n' cap', .int .i64 rt', .int .i64 pl', .int .i64 tr', .int .i64 du', .int .i64 st'] 24)
  have V1 := Vals.new (w.alloc (.cells #[.slice oa n cap, .int .i64 rt, .int .i64 pl, .int .i64 tr, .int .i64 du, .int .i64 st] 24)) 24 #[.slice ob n' cap', .int .i64 rt', .int .i64 pl', .int .i64 tr', .int .i64 du', .int .i64 st']
  rw [World.size_alloc] at V1
  have HL := less_any oa n cap ob n' cap' ls ls' _ (h.below B1 (Nat.le_refl _)) (h'.below B1 (Nat.le_refl _)) hn
  dsimp only [aggD, dV] at *
  generalize ltR ls ls' = r at *
  clear h h'
  go_enter Try.func10, Try.ntmps10
  go_upto_region 1 with fail
  generalize (w.alloc (.cells #[.slice oa n cap, .int .i64 rt, .int .i64 pl, .int .i64 tr, .int .i64 du, .int .i64 st] 24)).alloc (.cells #[.slice ob n' cap', .int .i64 rt', .int .i64 pl', .int .i64 tr', .int .i64 du', .int .i64 st'] 24) = w1 at *
  have c0 : w1.cell? ⟨w.heap.size, 0, none⟩ = some (.slice oa n cap) := V0.cell 0
  have c4 : w1.cell? ⟨w.heap.size, 4, none⟩ = some (.int .i64 du) := V0.cell 4
  have d0 : w1.cell? ⟨w.heap.size + 1, 0, none⟩ = some (.slice ob n' cap') := V1.cell 0
  have d4 : w1.cell? ⟨w.heap.size + 1, 4, none⟩ = some (.int .i64 du') := V1.cell 4
  by_cases h1 : du < du'
  · have HX : Hid (aheadB ⟨ls, rt, pl, tr, du, st⟩ ⟨ls', rt', pl', tr', du', st'⟩ = true) := by show _ = _; rw [HI.out, decide_eq_true h1]; rfl
    clear HI HL
    go_wp2_with fail
    go_ret
    exact ⟨retB HX.out.symm, B1⟩
  · by_cases h2 : du = du'
    · have HX : Hid (aheadB ⟨ls, rt, pl, tr, du, st⟩ ⟨ls', rt', pl', tr', du', st'⟩ = r) := by show _ = _; rw [HI.out, decide_eq_false h1, decide_eq_true h2]; simp
      have h3 : (du == du') = true := by simp [h2]
      clear HI
      go_wp2_with fail
      refine HL.mono ?_
      rintro e w2 ⟨rfl, B2⟩
      go_wp2_with fail
      go_ret
      exact ⟨retB HX.out.symm, B1.trans (B2.mono B1.size)⟩
    · have HX : Hid (aheadB ⟨ls, rt, pl, tr, du, st⟩ ⟨ls', rt', pl', tr', du', st'⟩ = false) := by show _ = _; rw [HI.out, decide_eq_false h1, decide_eq_false h2]; rfl
      have h3 : (du == du') = false := by simp [h2]
      clear HI HL
      go_wp2_with fail
      go_ret
      exact ⟨retB HX.out.symm, B1⟩
set_option maxRecDepth 100000 in
set_option maxHeartbeats 1600000 in
/-- equal duties are the same -/
theorem refSameD_any (oa : Option Addr) (n cap : Nat) (ob : Option Addr) (n' cap' : Nat) (a : D6) (w : World) (h : Ls w oa n cap a.ls) (h' : Ls w ob n' cap' a.ls) (hn : n ≤ 4611686018427387904) :
    Calls Try.prog 15 #[aggD oa n cap a, aggD ob n' cap' a] w fun e w' => e = .returned (.bool true) ∧ Below w.heap.size w w' := by
  obtain ⟨ls, rt, pl, tr, du, st⟩ := a
  have B0 := below_alloc w (.cells #[.slice oa n cap, .int .i64 rt, .int .i64 pl, .int .i64 tr, .int .i64 du, .int .i64 st] 24)
  have B1 := B0.alloc B0.size (.cells #[.slice ob n' cap', .int .i64 rt, .int .i64 pl, .int .i64 tr, .int .i64 du, .int .i64 st] 24)
  have V0 := (Vals.new w 24 #[.slice oa n cap, .int .i64 rt, .int .i64 pl, .int .i64 tr, .int .i64 du, .int .i64 st]).alloc (.cells #[.slice ob n' cap', .int .i64 rt, .int .i64 pl, .int .i64 tr, .int .i64 du, .int .i64 st] 24)
  have V1 := Vals.new (w.alloc (.cells #[.slice oa n cap, .int .i64 rt, .int .i64 pl, .int .i64 tr, .int .i64 du, .int .i64 st] 24)) 24 #[.slice ob n' cap', .int .i64 rt, .int .i64 pl, .int .i64 tr, .int .i64 du, .int .i64 st]
  rw [World.size_alloc] at V1
  have HL := same_any oa n cap ob n' cap' ls ls _ (h.below B1 (Nat.le_refl _)) (h'.below B1 (Nat.le_refl _)) hn
  have hs : sameR ls ls = true := by unfold sameR; simp
  rw [hs] at HL
  dsimp only [aggD, dV] at *
  clear h h' hs
  go_enter Try.func15, Try.ntmps15
  go_upto_region 1 with fail
  generalize (w.alloc (.cells #[.slice oa n cap, .int .i64 rt, .int .i64 pl, .int .i64 tr, .int .i64 du, .int .i64 st] 24)).alloc (.cells #[.slice ob n' cap', .int .i64 rt, .int .i64 pl, .int .i64 tr, .int .i64 du, .int .i64 st] 24) = w1 at *
  have c0 : w1.cell? ⟨w.heap.size, 0, none⟩ = some (.slice oa n cap) := V0.cell 0
  have d0 : w1.cell? ⟨w.heap.size + 1, 0, none⟩ = some (.slice ob n' cap') := V1.cell 0
  go_wp2_with fail
  refine HL.mono ?_
  rintro e w2 ⟨rfl, B2⟩
  have V2 := V0.keep B2 (Nat.le_refl _)
  have V3 := V1.keep B2 (Nat.le_refl _)
  clear c0 d0 V0 V1 HL
  have c1 : w2.cell? ⟨w.heap.size, 1, none⟩ = some (.int .i64 rt) := V2.cell 1
  have c2 : w2.cell? ⟨w.heap.size, 2, none⟩ = some (.int .i64 pl) := V2.cell 2
  have c3 : w2.cell? ⟨w.heap.size, 3, none⟩ = some (.int .i64 tr) := V2.cell 3
  have c4 : w2.cell? ⟨w.heap.size, 4, none⟩ = some (.int .i64 du) := V2.cell 4
  have c5 : w2.cell? ⟨w.heap.size, 5, none⟩ = some (.int .i64 st) := V2.cell 5
  have d1 : w2.cell? ⟨w.heap.size + 1, 1, none⟩ = some (.int .i64 rt) := V3.cell 1
  have d2 : w2.cell? ⟨w.heap.size + 1, 2, none⟩ = some (.int .i64 pl) := V3.cell 2
  have d3 : w2.cell? ⟨w.heap.size + 1, 3, none⟩ = some (.int .i64 tr) := V3.cell 3
  have d4 : w2.cell? ⟨w.heap.size + 1, 4, none⟩ = some (.int .i64 du) := V3.cell 4
  have d5 : w2.cell? ⟨w.heap.size + 1, 5, none⟩ = some (.int .i64 st) := V3.cell 5
  go_wp2_with fail
  go_ret
  exact ⟨rfl, B1.trans (B2.mono B1.size)⟩
end Go.Proofs.Ytaiacohnhhicpaa
