/-
  Matchers: a row behind another one; the law's own: a few, their texts short.
-/
import Derived.Test.YtbbbbkagoonklaaLabF
namespace Go.Proofs.Ytbbbbkagoonklaa
open Go.RowKit Go.Shelf
set_option linter.unusedVariables false

/-- matchers as cells, one behind the other -/
def cellsM (l : List M3) : List Value := l.flatMap fun x => [.int .i64 x.1, .string x.2.1, .string x.2.2]
theorem cellsM_length (l : List M3) : (cellsM l).length = l.length * 3 := by
  induction l with
  | nil => rfl
  | cons x l ih => simp only [cellsM, List.flatMap_cons, List.length_append, List.length_cons, List.length_nil] at *; omega
theorem cellsM_append (l m : List M3) : cellsM (l ++ m) = cellsM l ++ cellsM m := by unfold cellsM; simp
theorem cellsM_one (l : List M3) : ∀ u ∈ cellsM l, u.oneCell' = true := by
  intro u hu
  unfold cellsM at hu
  simp at hu
  obtain ⟨a, b, c, _, rfl | rfl | rfl⟩ := hu <;> rfl
theorem cellsM_at (l : List M3) : ∀ i, i < l.length → (cellsM l)[i * 3]? = some (.int .i64 (l.getD i zM).1) ∧ (cellsM l)[i * 3 + 1]? = some (.string (l.getD i zM).2.1) ∧ (cellsM l)[i * 3 + 2]? = some (.string (l.getD i zM).2.2) := by
  induction l with
  | nil => intro i hi; simp at hi
  | cons x l ih =>
    intro i hi
    have e : cellsM (x :: l) = .int .i64 x.1 :: .string x.2.1 :: .string x.2.2 :: cellsM l := rfl
    rw [e]
    cases i with
    | zero => exact ⟨rfl, rfl, rfl⟩
    | succ i =>
      have := ih i (by simpa using hi)
      rw [show (i + 1) * 3 = i * 3 + 1 + 1 + 1 from by omega]
      simpa using this
theorem infoMat : (Try.prog.info? 35).map (fun i => (i.zero, i.size, i.bytes)) = some (some (.agg #[.int .i64 0, .string ByteArray.empty, .string ByteArray.empty]), 3, 40) := by kernel_rfl
theorem Ms.of_own {w : World} {base : Nat} {v : Value} {n : Nat} {xs : List M3} (hl : xs.length = n) (h : w.ownsRow base 35 3 v n (cellsM xs)) :
    ∃ oa cap, v = .slice oa n cap ∧ Ms w oa n cap xs ∧ cap ≤ maxLen := by
  rcases h.2 with ⟨rfl, rfl⟩ | ⟨g, cap, cur, rfl, hb, hg, hnc, hm, hcs, htk⟩
  · exact ⟨none, 0, rfl, ⟨hl, Nat.le_refl _, fun i hi => absurd hi (by omega)⟩, by unfold maxLen; omega⟩
  · refine ⟨_, cap, rfl, ⟨hl, hnc, fun i hi => ⟨g, 0, rfl, ?_, ?_, ?_⟩⟩, hm⟩
    · have := (cellsM_at xs i (by omega)).1
      rw [← htk, List.getElem?_take, if_pos (by omega)] at this
      simpa [World.cell?, hg] using this
    · have := (cellsM_at xs i (by omega)).2.1
      rw [← htk, List.getElem?_take, if_pos (by omega)] at this
      simpa [World.cell?, hg] using this
    · have := (cellsM_at xs i (by omega)).2.2
      rw [← htk, List.getElem?_take, if_pos (by omega)] at this
      simpa [World.cell?, hg] using this
theorem Ms.news {w : World} {ad : Addr} {n cap : Nat} {l : List M3} (h : Ms w (some ad) n cap l) : ∀ j u, (cellsM l)[j]? = some u → w.cell? (ad.add j) = some u := by
  intro j u hj
  have hlt : j < l.length * 3 := by
    have := (List.getElem?_eq_some_iff.1 hj).1
    rwa [cellsM_length] at this
  have hl := h.len
  obtain ⟨g, o, e, h1, h2, h3⟩ := h.cell (j / 3) (by omega)
  cases e
  obtain ⟨q1, q2, q3⟩ := cellsM_at l (j / 3) (by omega)
  rw [Addr.add_lit]
  rcases (show j % 3 = 0 ∨ j % 3 = 1 ∨ j % 3 = 2 by omega) with h0 | h0 | h0
  · rw [show j / 3 * 3 = j from by omega] at q1 h1
    rw [h1, ← q1, hj]
  · rw [show j / 3 * 3 + 1 = j from by omega] at q2
    rw [show o + j / 3 * 3 + 1 = o + j from by omega] at h2
    rw [h2, ← q2, hj]
  · rw [show j / 3 * 3 + 2 = j from by omega] at q3
    rw [show o + j / 3 * 3 + 2 = o + j from by omega] at h3
    rw [h3, ← q3, hj]
theorem appendM_none (w : World) (ty : TypeId) (i : TypeInfo) (hi : Try.prog.info? 35 = some i) (oa : Option Addr) (n cap c : Nat) (h : n ≤ cap) (hnil : oa = none → n = 0 ∧ cap = 0) :
    (Builtin.append_ #[23, 23] ty #[.slice oa n cap, .slice none 0 c]).run Try.prog w = .ok (.slice oa n cap) w := by
  cases oa with
  | none =>
    obtain ⟨rfl, rfl⟩ := hnil rfl
    simp [Builtin.append_, run_underlying Try.underlying23, sizeOf, typeInfo, hi, Builtin.lenOf, Builtin.firstCells]
  | some ad => simp [Builtin.append_, run_underlying Try.underlying23, sizeOf, typeInfo, hi, Builtin.lenOf, Builtin.firstCells, h, storeCells]
theorem wp_append_ms (w : World) {o : Oper} {a : Act} {K : Act → World → Prop} {Q : Exit → Act → World → Prop} (s x : Operand)
    (ho : o.op = .call { callee := .builtin .append, args := #[s, x], argTypes := #[23, 23] }) (base : Nat) {v : Value} {n : Nat} {xs : List Value} (hs : a.eval s = v)
    (hown : w.ownsRow base 35 3 v n xs) {ox : Option Addr} {m c : Nat} {ds : List M3} (hx : a.eval x = .slice ox m c) (hD : Ms w ox m c ds) (hn : n + m ≤ 1000) (hbase : base ≤ w.heap.size)
    (h : ∀ v' w', w'.ownsRow base 35 3 v' (n + m) (xs ++ cellsM ds) → w.grownBy w' v.ownBlock → K (a.put o.dst v') w') : o.wp Try.prog a w K Q := by
  obtain ⟨i0, hi, hz0, hz1, hz2⟩ := info_parts infoMat
  cases ox with
  | none =>
    have hm0 : m = 0 := by
      rcases Nat.eq_zero_or_pos m with h0 | h0
      · exact h0
      · obtain ⟨g, o, e, _⟩ := hD.cell 0 h0
        cases e
    subst hm0
    have hds : ds = [] := List.eq_nil_of_length_eq_zero hD.len
    subst hds
    have hk := h v w (by simpa [cellsM] using hown) (World.grownBy.refl w _)
    rcases hown.2 with ⟨rfl, rfl⟩ | ⟨g, cap, cur, rfl, hb, hg, hnc, _⟩
    · have hrun := appendM_none w o.type i0 hi none 0 0 c (Nat.le_refl _) (fun _ => ⟨rfl, rfl⟩)
      unfold Oper.wp
      simp [execOp, ho, resolve, invoke, builtin, hs, hx, hrun, Result.andThen]
      exact hk
    · have hrun := appendM_none w o.type i0 hi (some ⟨g, 0, none⟩) n cap c hnc (fun e => by cases e)
      unfold Oper.wp
      simp [execOp, ho, resolve, invoke, builtin, hs, hx, hrun, Result.andThen]
      exact hk
  | some ad =>
    exact wp_append_own w s x 23 ho base 35 i0 _ 3 40 Try.underlying23 hi hz0 hz1 hz2 rfl (by decide) v n xs hs hown ad m c (cellsM ds) hx (by rw [cellsM_length, hD.len]) hD.news (cellsM_one ds) (by unfold maxLen; omega) (by omega) hbase (fun v' w' h1 h2 _ => h v' w' h1 h2)
/-- a row of one matcher that was just laid -/
theorem Ms.one (w : World) (x : M3) : Ms (w.alloc (.cells #[.int .i64 x.1, .string x.2.1, .string x.2.2] 35)) (some ⟨w.heap.size, 0, none⟩) 1 1 [x] := by
  refine ⟨rfl, Nat.le_refl _, fun i hi => ⟨w.heap.size, 0, rfl, ?_⟩⟩
  obtain rfl : i = 0 := by omega
  simp
theorem step_append_ms (w : World) {ops : Array Oper} {o : Oper} {a : Act} {K : Act → World → Prop} {Q : Exit → Act → World → Prop} {E : Prop} (hw : Region.wanted o (yielded ops a.tmps) = true) (s x : Operand)
    (ho : o.op = .call { callee := .builtin .append, args := #[s, x], argTypes := #[23, 23] }) (base : Nat) {v : Value} {n : Nat} {xs : List Value} (hs : a.eval s = v)
    (hown : w.ownsRow base 35 3 v n xs) {ox : Option Addr} {m c : Nat} {ds : List M3} (hx : a.eval x = .slice ox m c) (hD : Ms w ox m c ds) (hn : n + m ≤ 1000) (hbase : base ≤ w.heap.size)
    (h : ∀ v' w', w'.ownsRow base 35 3 v' (n + m) (xs ++ cellsM ds) → w.grownBy w' v.ownBlock → K (a.put o.dst v') w') : if Region.wanted o (yielded ops a.tmps) = true then Oper.wp Try.prog o a w K Q else E := by
  rw [if_pos hw]
  exact wp_append_ms w s x ho base hs hown hx hD hn hbase h
set_option maxRecDepth 100000 in
set_option maxHeartbeats 4000000 in
theorem asked_new (oa : Option Addr) (n cap : Nat) (l : List M3) (w : World) (h : Ms w oa n cap l) (hc : cap ≤ maxLen) :
    Calls Try.prog 7 #[.slice oa n cap] w fun e w' => (∃ oa' cap', e = .returned (.slice oa' (min n 6) cap') ∧ Ms w' oa' (min n 6) cap' (fewM l) ∧ ∀ g o, oa' = some ⟨g, o, none⟩ → w.heap.size ≤ g) ∧ Below w.heap.size w w' := by
  have hl := h.len
  have hr := h.room
  have hn : n ≤ 9223372036854775807 := by unfold maxLen at hc; omega
  obtain ⟨m, hmm, hm, hmn, hm6⟩ := min_of n 6
  have HM := Lib.hid hmm
  have HF : Hid (fewM l = (l.take m).map cutM) := by show _ = _; unfold fewM; rw [hl, hmm]
  rw [← hmm]
  clear hmm
  change min (n : Int) 6 = (m : Int) at hm
  have own0 : w.ownsRow w.heap.size 35 3 (.slice none 0 0) 0 (cellsM ([] : List M3)) := World.ownsRow_nil _ _ _ _
  go_enter Try.func7, Try.ntmps7
  go_wp2_with fail
  clear hm
  go_loopw [3, 5, 12] (fun s3 _ s12 wr => ∃ k : Nat, k ≤ m ∧ s12 = .int .i64 k ∧ wr.ownsRow w.heap.size 35 3 s3 k (cellsM ((l.take k).map cutM)) ∧ Below w.heap.size w wr) (fun _ _ s12 _ => m - (intOf s12).toNat)
  case atStart => exact ⟨0, Nat.zero_le _, rfl, by simpa using own0, Below.refl _ _⟩
  case round =>
    obtain ⟨k, hk, rfl, hown, hB⟩ := hrel
    by_cases hlt : k < m
    · obtain ⟨g, o, rfl, c0, c1, c2⟩ := (h.below hB (Nat.le_refl _)).cell k (by omega)
      have HX := Lib.hid (fewM_take l k (by omega))
      have hkn : k < n := by omega
      generalize l.getD k zM = x at *
      obtain ⟨q, s, t⟩ := x
      dsimp only at c0 c1 c2
      have HC : Hid (cutM (q, s, t) = (q, s.extract 0 (min s.size 12), t.extract 0 (min t.size 12))) := rfl
      obtain ⟨a, ha, ha1, ha2, ha3⟩ := min_of s.size 12
      obtain ⟨b, hb, hb1, hb2, hb3⟩ := min_of t.size 12
      rw [← ha, ← hb] at HC
      change min (s.size : Int) 12 = (a : Int) at ha1
      change min (t.size : Int) 12 = (b : Int) at hb1
      have hB7 := hB.alloc hB.size (.cells #[.int .i64 q, .string s, .string t] 35)
      have howna := hown.alloc (.cells #[.int .i64 q, .string s, .string t] 35)
      have e0 : (wr.alloc (.cells #[.int .i64 q, .string s, .string t] 35)).cell? ⟨wr.heap.size, 0, none⟩ = some (.int .i64 q) := by simp
      have e1 : (wr.alloc (.cells #[.int .i64 q, .string s, .string t] 35)).cell? ⟨wr.heap.size, 1, none⟩ = some (.string s) := by simp
      have e2 : (wr.alloc (.cells #[.int .i64 q, .string s, .string t] 35)).cell? ⟨wr.heap.size, 2, none⟩ = some (.string t) := by simp
      have hs7 : (wr.alloc (.cells #[.int .i64 q, .string s, .string t] 35)).heap.size = wr.heap.size + 1 := by simp
      clear h hl HF ha hb own0
      go_wp2_with fail
      generalize wr.alloc (.cells #[.int .i64 q, .string s, .string t] 35) = w7 at *
      have hsz8 : w.heap.size ≤ (w7.drew.alloc (.cells #[.int .i64 q, .string (s.extract 0 a), .string (t.extract 0 b)] 35)).heap.size := by have := hB7.size; simp; omega
      have hone := Ms.one w7.drew (q, s.extract 0 a, t.extract 0 b)
      rw [show w7.drew.heap.size = wr.heap.size + 1 from hs7] at hone
      have hkeep : ∀ w1, (w7.drew.alloc (.cells #[.int .i64 q, .string (s.extract 0 a), .string (t.extract 0 b)] 35)).grownBy w1 u3.ownBlock → w1.cell? ⟨wr.heap.size, 0, none⟩ = some (.int .i64 q) ∧ w1.cell? ⟨wr.heap.size, 1, none⟩ = some (.string s) ∧ w1.cell? ⟨wr.heap.size, 2, none⟩ = some (.string t) := fun w1 hg => by
        have hlt := hown.lt
        have hne : some wr.heap.size ≠ u3.ownBlock := fun e => by have := hlt _ e.symm; omega
        have hb1 := hg.cell_far (a := ⟨wr.heap.size, 0, none⟩) (by simp; omega) hne
        have hb2 := hg.cell_far (a := ⟨wr.heap.size, 1, none⟩) (by simp; omega) hne
        have hb3 := hg.cell_far (a := ⟨wr.heap.size, 2, none⟩) (by simp; omega) hne
        have B := (Below.refl w7.drew.heap.size w7.drew).alloc (Nat.le_refl _) (.cells #[.int .i64 q, .string (s.extract 0 a), .string (t.extract 0 b)] 35)
        rw [hb1, hb2, hb3]
        exact ⟨(B.cell (p := ⟨wr.heap.size, 0, none⟩) (by show _ < w7.heap.size; dsimp only; omega)).trans e0, (B.cell (p := ⟨wr.heap.size, 1, none⟩) (by show _ < w7.heap.size; dsimp only; omega)).trans e1, (B.cell (p := ⟨wr.heap.size, 2, none⟩) (by show _ < w7.heap.size; dsimp only; omega)).trans e2⟩
      have HK := Lib.hid hkeep
      clear hkeep
      generalize wr.heap.size = Bx at *
      go_region_held3 (fun w' => w'.cell? ⟨Bx, 0, none⟩ = some (.int .i64 q) ∧ w'.cell? ⟨Bx, 1, none⟩ = some (.string s) ∧ w'.cell? ⟨Bx, 2, none⟩ = some (.string t)) (first | exact HK.out _ hg1 | go_keep) (first | (refine step_append_ms _ (by rfl) (.tmp 16) (.tmp 34) (by rfl) w.heap.size (by rfl) ((own_drewL howna).alloc _) (by rfl) hone (by omega) hsz8 ?_; intro v1 w1 own1 hg1))
      all_goals
        have B8 : Below w.heap.size w w1 := (hB7.drew.alloc hB7.drew.size (.cells #[.int .i64 q, .string (s.extract 0 a), .string (t.extract 0 b)] 35)).grown hg1 hsz8 (fun r e => (hown.lt r e).1)
        have own2 := own1
        rw [← cellsM_append, ← HC.out, ← HX.out] at own2
        clear own1 hg1 hone hkn c0 c1 c2 e0 e1 e2 howna hown
        go_wp2_with fail
        go_roundw
        case rel => exact ⟨k + 1, by omega, by go_num, own2, B8⟩
        case measure => simp [intOf]; omega
    · obtain rfl : k = m := by omega
      obtain ⟨oa', cap', rfl, hD, hm'⟩ := Ms.of_own (by rw [List.length_map, List.length_take]; omega) hown
      have HN : Hid (∀ g o, oa' = some ⟨g, o, none⟩ → w.heap.size ≤ g) := fun g o e => (hown.lt g (by rw [e]; rfl)).1
      clear h hl hown own0
      go_wp2_with fail
      go_ret
      exact ⟨⟨_, _, rfl, by rw [HF.out]; exact hD, HN.out⟩, hB⟩
theorem asked_any (oa : Option Addr) (n cap : Nat) (l : List M3) (w : World) (h : Ms w oa n cap l) (hc : cap ≤ maxLen) :
    Calls Try.prog 7 #[.slice oa n cap] w fun e w' => (∃ oa' cap', e = .returned (.slice oa' (min n 6) cap') ∧ Ms w' oa' (min n 6) cap' (fewM l)) ∧ Below w.heap.size w w' := by
  refine (asked_new oa n cap l w h hc).mono ?_
  rintro e w' ⟨⟨oa', cap', he, hL, _⟩, B⟩
  exact ⟨⟨oa', cap', he, hL⟩, B⟩
end Go.Proofs.Ytbbbbkagoonklaa
