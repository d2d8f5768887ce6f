/-
  Dues through a channel: what is sent, and what is received.
-/
import Derived.Test.YteomenkojhppfaaDueK
import Derived.Test.YteomenkojhppfaaDueI
namespace Go.Proofs.Yteomenkojhppfaa
open Go.RowKit Go.Conc
set_option linter.unusedVariables false

/-- a due as a value -/
def valD (x : D2) : Value := .agg #[.int .i64 x.1, .int .i64 x.2]
/-- the channel c holds these dues -/
def Chan (w : World) (c C : Nat) (q : List D2) : Prop := ∃ s r, w.heap[c]? = some (.chan C (q.map valD).toArray false s r false)
theorem Chan.lt {w : World} {c C : Nat} {q : List D2} (h : Chan w c C q) : c < w.heap.size := by
  obtain ⟨s, r, h⟩ := h
  exact (Array.getElem?_eq_some_iff.1 h).1
theorem Ds.chan {w w' : World} {oa : Option Addr} {n cap c C : Nat} {l q : List D2} (h : Ds w oa n cap l) (hc : Chan w c C q) (hg : w.grownBy w' (some c)) : Ds w' oa n cap l := by
  refine ⟨h.len, h.room, fun i hi => ?_⟩
  obtain ⟨g, o, e, h1, h2⟩ := h.cell i hi
  have hlt := World.block_lt_of_cell? w _ h1
  have hne : g ≠ c := by
    rintro rfl
    obtain ⟨s, r, hc⟩ := hc
    simp [World.cell?, hc] at h1
  have hb : w'.heap[g]? = w.heap[g]? := hg.block g hlt (by simpa using hne)
  exact ⟨g, o, e, (World.cell?_of_block (w := w) hb).trans h1, (World.cell?_of_block (w := w) hb).trans h2⟩
theorem grown_setChan (w : World) (c cap : Nat) (buf : Array Value) (cl : Bool) (s r : Nat) (tm : Bool) : w.grownBy (w.setChan c cap buf cl s r tm) (some c) := by
  refine ⟨rfl, rfl, rfl, by simp [World.setChan], fun k hk hne => ?_⟩
  simp only [World.setChan]
  rw [Array.getElem?_setIfInBounds_ne (fun e => hne (by rw [e]))]
theorem kc_trans {w a b : World} {c : Nat} {row : Option Nat} (h : w.grownBy a (some c)) (k : a.grownBy b row) (hr : ∀ r, row = some r → w.heap.size ≤ r ∨ r = c) : w.grownBy b (some c) := by
  refine ⟨k.os.trans h.os, k.tape.trans h.tape, k.output.trans h.output, Nat.le_trans h.size k.size, fun i hi hne => ?_⟩
  rw [k.block i (Nat.lt_of_lt_of_le hi h.size) (fun e => ?_), h.block i hi hne]
  rcases hr i e.symm with h1 | h1
  · omega
  · exact hne (by rw [h1])
theorem kc_refl (w : World) (c : Nat) : w.grownBy w (some c) := ⟨rfl, rfl, rfl, Nat.le_refl _, fun _ _ _ => rfl⟩
theorem Chan.kept {w w' : World} {c C : Nat} {q : List D2} {row : Option Nat} (h : Chan w c C q) (hg : w.grownBy w' row) (hne : some c ≠ row) : Chan w' c C q := by
  have hlt := h.lt
  obtain ⟨s, r, h⟩ := h
  exact ⟨s, r, (hg.block c hlt hne).trans h⟩
/-- those after now, those that are due -/
def afterD (now : Int) (l : List D2) : List D2 := l.filter fun x => decide (now < x.1)
def hereD (now : Int) (l : List D2) : List D2 := l.filter fun x => !decide (now < x.1)
theorem afterD_snoc (now : Int) (l : List D2) (x : D2) : afterD now (l ++ [x]) = if now < x.1 then afterD now l ++ [x] else afterD now l := by
  unfold afterD
  rw [List.filter_append]
  by_cases h : now < x.1 <;> simp [h]
theorem hereD_snoc (now : Int) (l : List D2) (x : D2) : hereD now (l ++ [x]) = if now < x.1 then hereD now l else hereD now l ++ [x] := by
  unfold hereD
  rw [List.filter_append]
  by_cases h : now < x.1
  · simp [h]
  · simp [h]
theorem afterD_le (now : Int) (l : List D2) : (afterD now l).length ≤ l.length := List.length_filter_le ..
theorem hereD_le (now : Int) (l : List D2) : (hereD now l).length ≤ l.length := List.length_filter_le ..
set_option maxRecDepth 100000 in
set_option maxHeartbeats 4000000 in
theorem sent_any (c C : Nat) (oa : Option Addr) (n cap : Nat) (l : List D2) (now : Int) (w : World) (h : Ds w oa n cap l) (hn : n ≤ 70) (hc : Chan w c C []) (hC : n ≤ C) :
    Calls Try.prog 23 #[.chan (some c), .slice oa n cap, .int .i64 now] w fun e w' => ∃ v, e = .returned v ∧
      ((∃ oa' cap', v = .slice oa' (afterD now l).length cap' ∧ Ds w' oa' (afterD now l).length cap' (afterD now l) ∧ cap' ≤ maxLen) ∧ Chan w' c C (hereD now l) ∧ w.grownBy w' (some c)) := by
  have hl := h.len
  obtain ⟨i0, hi, hz0, hz1, hz2⟩ := info_parts infoDue
  refine calls_of_nwp Try.func23 rfl ?_
  simp only [Try.ntmps23, List.size_toArray, List.length_cons, List.length_nil, Nat.reduceAdd, Nat.reduceSub, Array.replicate_succ, Array.replicate_zero, List.push_toArray, List.append_toArray, List.nil_append, List.cons_append]
  refine nwp_seq ?_
  refine nwp_of ?_
  go_wp2_with fail
  refine nwp_seq ?_
  refine nwp_of ?_
  go_wp2_with fail
  refine nwp_seq ?_
  refine nwp_seq ?_
  refine nwp_of ?_
  go_wp2_with fail
  refine nwp_block ?_
  refine nwp_loop (fun m a wr => ∃ (k : Nat) (v u9 u13 u14 u15 u16 u17 u18 u19 u20 u21 u22 u23 u24 u25 u26 : Value), m = n - k ∧ k ≤ n ∧
    a = { tmps := #[.chan (some c), .slice oa n cap, .int .i64 now, undef, undef, undef, .slice none 0 0, v, undef, u9, .slice oa n cap, .int .i64 n, .int .i64 k, u13, u14, u15, u16, u17, u18, u19, u20, u21, u22, u23, u24, u25, u26, undef], defers := [] } ∧
    wr.ownsRow w.heap.size 24 2 v (afterD now (l.take k)).length (cellsD (afterD now (l.take k))) ∧ Chan wr c C (hereD now (l.take k)) ∧ w.grownBy wr (some c)) n ?start ?round
  case start =>
    exact ⟨0, _, _, _, _, _, _, _, _, _, _, _, _, _, _, _, _, by omega, by omega, rfl, World.ownsRow_nil _ _ _ _, hc, kc_refl _ _⟩
  case round =>
    rintro m a wr ⟨k, v, u9, u13, u14, u15, u16, u17, u18, u19, u20, u21, u22, u23, u24, u25, u26, rfl, hk, rfl, hown, hch, hg⟩
    refine nwp_seq ?_
    refine nwp_of ?_
    by_cases hlt : k < n
    · go_wp2_with fail
      refine nwp_seq ?_
      refine nwp_of ?_
      go_wp2_with fail
      refine nwp_seq ?_
      refine nwp_block ?_
      refine nwp_seq ?_
      refine nwp_of ?_
      have hr := h.room
      obtain ⟨g, o, rfl, c0, c1⟩ := (h.chan hc hg).cell k hlt
      have HA := Lib.hid (takeD_next l k (by omega))
      have HF := Lib.hid (Nat.le_trans (afterD_le now (l.take k)) (List.length_take_le k l))
      generalize l.getD k (0, 0) = x at *
      obtain ⟨a, i⟩ := x
      dsimp only at c0 c1
      go_wp2_with fail
      have hpl := HF.out
      obtain ⟨wa, hwa⟩ : ∃ wa, wa = wr.alloc (.cells #[.int .i64 a, .int .i64 i] 24) := ⟨_, rfl⟩
      have a0 : wa.cell? ⟨wr.heap.size, 0, none⟩ = some (.int .i64 a) := by subst hwa; simp
      have a1 : wa.cell? ⟨wr.heap.size, 1, none⟩ = some (.int .i64 i) := by subst hwa; simp
      have hga := World.grownBy_alloc wr (.cells #[.int .i64 a, .int .i64 i] 24) none
      have howna := hown.alloc (.cells #[.int .i64 a, .int .i64 i] 24)
      rw [← hwa] at hga howna
      have hcha := hch.kept hga (by simp)
      have hgw := kc_trans hg hga (fun r e => by cases e)
      rw [← hwa]
      have hsz := hgw.size
      have hcl := hc.lt
      clear hwa hga hown hch hg c0 c1 hc h
      generalize wr.heap.size = B at *
      clear wr
      by_cases hna : now < a
      · have HB := Lib.hid (afterD_snoc now (l.take k) (a, i))
        have HC := Lib.hid (hereD_snoc now (l.take k) (a, i))
        simp only [hna, if_true] at HB HC
        rw [← HA.out] at HB HC
        refine nwp_seq ?_
        refine nwp_of ?_
        go_wp2_with (at_builtin; refine wpList_append_own _ rfl _ _ 22 rfl w.heap.size 24 i0 _ 2 16 Try.underlying22 hi hz0 hz1 hz2 rfl (by decide) _ _ _ rfl (howna.alloc _) ⟨wa.heap.size, 0, none⟩ 1 1 [.int .i64 a, .int .i64 i] rfl rfl (two_new _ _ _ _) (cellsD_one [(a, i)]) (by unfold maxLen; omega) (by omega) (by simp; omega) ?_; intro v' w1 hown' hgrow _)
        refine nwp_of ?_
        go_wp2_with fail
        change (wa.alloc (.cells #[.int .i64 a, .int .i64 i] 24)).grownBy w1 v.ownBlock at hgrow
        have hob := howna.lt
        have hg1 : w.grownBy w1 (some c) := kc_trans (kc_trans hgw (World.grownBy_alloc wa _ none) (fun r e => by cases e)) hgrow (fun r e => .inl (hob r e).1)
        have hc1 : Chan w1 c C (hereD now (l.take k)) := (hcha.kept (World.grownBy_alloc wa _ none) (by simp)).kept hgrow (fun e => by have := hob c e.symm; omega)
        refine ⟨n - (k + 1), by omega, k + 1, v', _, _, _, _, _, _, _, _, _, _, _, _, _, _, _, rfl, by omega, rfl, ?_, ?_, hg1⟩
        · rw [HB.out, List.length_append, cellsD_snoc]
          exact hown'
        · rw [HC.out]
          exact hc1
      · have HB := Lib.hid (afterD_snoc now (l.take k) (a, i))
        have HC := Lib.hid (hereD_snoc now (l.take k) (a, i))
        simp only [hna, if_false] at HB HC
        rw [← HA.out] at HB HC
        refine nwp_seq ?_
        refine nwp_of ?_
        go_wp2_with fail
        refine nwp_region ?_
        refine nops_value (v := .chan (some c)) (w1 := wa) rfl rfl (by go_simp) ?_
        refine nops_value (v := .agg #[.int .i64 a, .int .i64 i]) (w1 := wa) rfl rfl (by go_simp) ?_
        obtain ⟨sn, rn, hch⟩ := hcha
        refine nops_send (c := c) (v := .agg #[.int .i64 a, .int .i64 i]) (z := .tuple #[]) rfl rfl (by simp [go_sem, execOp, scase, Act.eval]) hch (by simp; have := hereD_le now (l.take k); rw [List.length_take] at this; omega) ?_
        refine nops_nil ?_
        refine nwp_of ?_
        go_wp2_with fail
        have hgs := grown_setChan wa c C (List.map valD (hereD now (l.take k)) ++ [Value.agg #[.int .i64 a, .int .i64 i]]).toArray false (sn + 1) rn false
        refine ⟨n - (k + 1), by omega, k + 1, rfl, by omega, v, ⟨_, _, _, _, _, _, _, _, _, _, _, _, _, _, _, rfl⟩, ?_, ⟨sn + 1, rn, ?_⟩, kc_trans hgw hgs (fun r e => .inr (by cases e; rfl))⟩
        · rw [HB.out]
          exact howna.kept hgs (.inr (fun e => by have := (howna.lt c e).1; omega))
        · rw [HC.out]
          have := heap_setChan wa c C (List.map valD (hereD now (l.take k)) ++ [Value.agg #[.int .i64 a, .int .i64 i]]).toArray false (sn + 1) rn false (by omega)
          rw [this, List.map_append]
          rfl
    · go_wp2_with fail
      refine nwp_seq ?_
      refine nwp_of ?_
      go_wp2_with fail
      obtain rfl : k = n := by omega
      rw [List.take_of_length_le (by omega)] at hown hch
      obtain ⟨oa', cap', rfl, hD, hm⟩ := Ds.of_own rfl hown
      refine nwp_seq ?_
      refine nwp_of ?_
      go_wp2_with fail
      refine nwp_of ?_
      go_wp2_with fail
      exact ⟨_, results_tmp rfl _ _ _, oa', cap', rfl, hD, hm⟩
theorem extract_one (x : Value) (t : List Value) : (x :: t).toArray.extract 1 (x :: t).toArray.size = t.toArray := by simp
theorem two_next (w : World) (o : Obj) (x y : Value) (t : TypeId) : ∀ j u, [x, y][j]? = some u → ((w.alloc o).alloc (.cells #[x, y] t)).cell? ((⟨w.heap.size + 1, 0, none⟩ : Addr).add j) = some u := by
  have h := two_new (w.alloc o) x y t
  rw [World.size_alloc] at h
  exact h
set_option maxRecDepth 100000 in
set_option maxHeartbeats 4000000 in
theorem received_any (c C : Nat) (q : List D2) (w : World) (hq : q.length ≤ 70) (hc : Chan w c C q) :
    Calls Try.prog 24 #[.chan (some c)] w fun e w' => ∃ v, e = .returned v ∧
      ((∃ oa' cap', v = .slice oa' q.length cap' ∧ Ds w' oa' q.length cap' q ∧ cap' ≤ maxLen) ∧ w.grownBy w' (some c)) := by
  obtain ⟨i0, hi, hz0, hz1, hz2⟩ := info_parts infoDue
  refine calls_of_nwp Try.func24 rfl ?_
  simp only [Try.ntmps24, List.size_toArray, List.length_cons, List.length_nil, Nat.reduceAdd, Nat.reduceSub, Array.replicate_succ, Array.replicate_zero, List.push_toArray, List.append_toArray, List.nil_append, List.cons_append]
  refine nwp_seq ?_
  refine nwp_of ?_
  go_wp2_with fail
  refine nwp_seq ?_
  refine nwp_of ?_
  go_wp2_with fail
  refine nwp_block ?_
  refine nwp_loop (fun m a wr => ∃ (k : Nat) (v u4 u5 u6 u7 u8 u10 u11 u12 u13 u14 : Value), m = q.length - k ∧ k ≤ q.length ∧
    a = { tmps := #[.chan (some c), undef, .slice none 0 0, v, u4, u5, u6, u7, u8, undef, u10, u11, u12, u13, u14], defers := [] } ∧
    wr.ownsRow w.heap.size 24 2 v (q.take k).length (cellsD (q.take k)) ∧ Chan wr c C (q.drop k) ∧ w.grownBy wr (some c)) q.length ?start ?round
  case start =>
    exact ⟨0, _, _, _, _, _, _, _, _, _, _, _, by omega, by omega, rfl, World.ownsRow_nil _ _ _ _, hc, kc_refl _ _⟩
  case round =>
    rintro m a wr ⟨k, v, u4, u5, u6, u7, u8, u10, u11, u12, u13, u14, rfl, hk, rfl, hown, ⟨sn, rn, hch⟩, hg⟩
    have hsz := hg.size
    have hcl := hc.lt
    refine nwp_block ?_
    refine nwp_seq ?_
    refine nwp_of ?_
    go_wp2_with fail
    refine nwp_seq ?_
    refine nwp_region ?_
    by_cases hlt : k < q.length
    · have HA := Lib.hid (takeD_next q k hlt)
      have HL : Hid ((q.take k).length = k) := by rw [List.length_take]; show _ = _; omega
      have e : q.drop k = q.getD k (0, 0) :: q.drop (k + 1) := by rw [getD_d q k hlt]; exact List.drop_eq_getElem_cons hlt
      rw [e] at hch
      clear e
      have hsome : 0 < (List.map valD (q.getD k (0, 0) :: q.drop (k + 1))).toArray.size := by simp
      refine nops_ready (c := c) (z := .agg #[.int .i64 0, .int .i64 0]) rfl rfl (by simp [go_sem, execOp, rcase, Act.eval]) hch hsome ?_
      have hgs := grown_setChan wr c C ((List.map valD (q.getD k (0, 0) :: q.drop (k + 1))).toArray.extract 1 (List.map valD (q.getD k (0, 0) :: q.drop (k + 1))).toArray.size) false sn (rn + 1) false
      have hc2 := heap_setChan wr c C ((List.map valD (q.getD k (0, 0) :: q.drop (k + 1))).toArray.extract 1 (List.map valD (q.getD k (0, 0) :: q.drop (k + 1))).toArray.size) false sn (rn + 1) false (by omega)
      have ev : (List.map valD (q.getD k (0, 0) :: q.drop (k + 1))).toArray.getD 0 undef = valD (q.getD k (0, 0)) := rfl
      have eb : (List.map valD (q.getD k (0, 0) :: q.drop (k + 1))).toArray.extract 1 (List.map valD (q.getD k (0, 0) :: q.drop (k + 1))).toArray.size = (List.map valD (q.drop (k + 1))).toArray := extract_one _ _
      rw [eb] at hgs hc2
      rw [ev, eb]
      have hown2 := hown.kept hgs (.inr (fun e => by have := (hown.lt c e).1; omega))
      have hg2 := kc_trans hg hgs (fun r e => .inr (by injection e with e; exact e.symm))
      generalize wr.setChan c C (List.map valD (q.drop (k + 1))).toArray false sn (rn + 1) false = wa at *
      clear ev eb hsome hch hown hgs hg
      generalize q.getD k (0, 0) = x at *
      obtain ⟨a, i⟩ := x
      refine nops_value (v := .int .i64 0) (w1 := wa) rfl rfl (by go_simp) ?_
      refine nops_value (v := .bool true) (w1 := wa) rfl rfl (by go_simp) ?_
      refine nops_nil ?_
      refine nwp_of ?_
      simp only [valD]
      have hsz2 := hg2.size
      have hlk : (q.take k).length ≤ k := by rw [HL.out]; omega
      go_wp2_with (at_builtin; refine wpList_append_own _ rfl _ _ 22 rfl w.heap.size 24 i0 _ 2 16 Try.underlying22 hi hz0 hz1 hz2 rfl (by decide) _ _ _ rfl ((hown2.alloc _).alloc _) ⟨wa.heap.size + 1, 0, none⟩ 1 1 [.int .i64 a, .int .i64 i] rfl rfl (two_next _ _ _ _ _) (cellsD_one [(a, i)]) (by unfold maxLen; omega) (by omega) (by simp; omega) ?_; intro v' w1 hown' hgrow _)
      change ((wa.alloc (.cells #[.int .i64 a, .int .i64 i] 24)).alloc (.cells #[.int .i64 a, .int .i64 i] 24)).grownBy w1 v.ownBlock at hgrow
      have hob := hown2.lt
      have hg1 : w.grownBy w1 (some c) := kc_trans (kc_trans (kc_trans hg2 (World.grownBy_alloc wa _ none) (fun r e => by cases e)) (World.grownBy_alloc _ _ none) (fun r e => by cases e)) hgrow (fun r e => .inl (hob r e).1)
      have hc1 : Chan w1 c C (q.drop (k + 1)) := (((show Chan wa c C (q.drop (k + 1)) from ⟨sn, rn + 1, hc2⟩).kept (World.grownBy_alloc wa _ none) (by simp)).kept (World.grownBy_alloc _ _ none) (by simp)).kept hgrow (fun e => by have := (hob c e.symm).1; omega)
      refine ⟨q.length - (k + 1), by omega, k + 1, v', _, _, _, _, _, _, _, _, _, _, rfl, by omega, rfl, ?_, hc1, hg1⟩
      rw [HA.out, List.length_append, cellsD_snoc]
      exact hown'
    · obtain rfl : k = q.length := by omega
      rw [List.drop_length] at hch
      rw [List.take_length] at hown
      obtain ⟨oa', cap', rfl, hD, hm⟩ := Ds.of_own rfl hown
      refine nops_default (c := c) (z := .agg #[.int .i64 0, .int .i64 0]) rfl rfl (by simp [go_sem, execOp, rcase, Act.eval]) hch ?_
      refine nops_value (v := .int .i64 (-1)) (w1 := wr) rfl rfl (by go_simp) ?_
      refine nops_value (v := .bool false) (w1 := wr) rfl rfl (by go_simp) ?_
      refine nops_nil ?_
      refine nwp_of ?_
      go_wp2_with fail
      refine ⟨by trivial, by first | rfl | trivial, _, results_tmp rfl _ _ _, ⟨oa', cap', rfl, hD, hm⟩, hg⟩
end Go.Proofs.Yteomenkojhppfaa
