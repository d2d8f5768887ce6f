/-
  Dues: the document's own answers: those up to a time, and whether two rows are the same; the law's own: a few of many, and whether two rows have the same dues.
-/
import Derived.Test.YteomenkojhppfaaDueR
import Derived.Test.YteomenkojhppfaaDueQ
namespace Go.Proofs.Yteomenkojhppfaa
open Go.RowKit
set_option linter.unusedVariables false

theorem own_below {W W' : World} {base : Nat} {e : TypeId} {size : Nat} {v : Value} {k : Nat} {xs : List Value} (h : W.ownsRow base e size v k xs) (hB : Below W.heap.size W W') : W'.ownsRow base e size v k xs :=
  h.kept (row := none) ⟨hB.os, hB.tape, hB.output, hB.size, fun i hi _ => hB.block i hi⟩ (by cases v.ownBlock with | none => exact .inl rfl | some x => exact .inr (by simp))
/-- one due behind a row of one's own: in its place, or in a new one -/
theorem wpList_one_d (w : World) {ops : Array Oper} {rest : List Oper} {o : Oper} {a : Act} {Q : Exit → Act → World → Prop} (hw : Region.wanted o (yielded ops a.tmps) = true) (s x : Operand)
    (ho : o.op = .call { callee := .builtin .append, args := #[s, x], argTypes := #[22, 22] }) (base : Nat) {v : Value} {n : Nat} {xs : List Value} (hs : a.eval s = v)
    (hown : w.ownsRow base 24 2 v n xs) {ad : Addr} {c : Nat} {d : D2} (hx : a.eval x = .slice (some ad) 1 c) (hD : Ds w (some ad) 1 c [d]) (hn : n ≤ 1000) (hbase : base ≤ w.heap.size)
    (h : ∀ g cap w', w'.ownsRow base 24 2 (.slice (some ⟨g, 0, none⟩) (n + 1) cap) (n + 1) (xs ++ cellsD [d]) → w.grownBy w' v.ownBlock → (v.ownBlock = some g ∨ g = w.heap.size) → wpList Try.prog ops Q rest (a.put o.dst (.slice (some ⟨g, 0, none⟩) (n + 1) cap)) w') : wpList Try.prog ops Q (o :: rest) a w := by
  obtain ⟨i0, hi, hz0, hz1, hz2⟩ := info_parts infoDue
  refine wpList_step fun K hK => ?_
  rw [if_pos hw]
  exact wp_append_lies w s x 22 ho base 24 i0 _ 2 16 Try.underlying22 hi hz0 hz1 hz2 rfl (by decide) v n xs hs hown ad 1 c (cellsD [d]) hx rfl hD.news (cellsD_one [d]) (by omega) (by unfold maxLen; omega) (by omega) hbase w.heap.size rfl (fun g cap w' h1 h2 h3 _ => hK _ _ (h g cap w' h1 h2 h3))
theorem Ds.kept {w w' : World} {oa : Option Addr} {n cap b : Nat} {l : List D2} (h : Ds w oa n cap l) (hg : w.grownBy w' (some b)) (hne : ∀ ad, oa = some ad → ad.block ≠ b) : Ds w' oa n cap l := by
  refine ⟨h.len, h.room, fun i hi => ?_⟩
  obtain ⟨g, o, e, h1, h2⟩ := h.cell i hi
  have hlt := World.block_lt_of_cell? w _ h1
  have hb : w'.heap[g]? = w.heap[g]? := hg.block g hlt (fun e' => hne _ e (by injection e'))
  exact ⟨g, o, e, (World.cell?_of_block (w := w) hb).trans h1, (World.cell?_of_block (w := w) hb).trans h2⟩
theorem not_after (now : Int) (x : D2) : decide (x.1 ≤ now) = !decide (now < x.1) := by
  by_cases h : now < x.1
  · simp [h]
  · simp [h]; omega
set_option maxRecDepth 100000 in
set_option maxHeartbeats 4000000 in
theorem until_is (oa : Option Addr) (n cap : Nat) (l : List D2) (now : Int) (w : World) (h : Ds w oa n cap l) (hn : n ≤ 71) (S : List D2) (hS : S = sortI l) :
    Calls Try.prog 16 #[.slice oa n cap, .int .i64 now] w fun e w' => (∃ oa1 cap1 oa2 cap2, e = .returned (.tuple #[.slice oa1 (hereD now S).length cap1, .slice oa2 (afterD now S).length cap2]) ∧
      Ds w' oa1 (hereD now S).length cap1 (hereD now S) ∧ Ds w' oa2 (afterD now S).length cap2 (afterD now S) ∧ cap1 ≤ maxLen ∧ cap2 ≤ maxLen) ∧ Below w.heap.size w w' := by
  have hl := h.len
  obtain ⟨i0, hi, hz0, hz1, hz2⟩ := info_parts infoDue
  have own1 := own_base (World.ownsRow_made (e := 24) (size := 2) w #[] 0 (Nat.le_refl _) (Nat.zero_le _) (by simp)) (Nat.le_refl w.heap.size)
  have B1 : Below w.heap.size w (w.alloc (.cells #[] 24)) := (Below.refl _ w).alloc (Nat.le_refl _) _
  have z1 : (w.alloc (.cells #[] 24)).heap.size = w.heap.size + 1 := by simp
  have own2 := World.ownsRow_made (e := 24) (size := 2) (w.alloc (.cells #[] 24)) #[] 0 (Nat.le_refl _) (Nat.zero_le _) (by simp)
  have own1 := own1.alloc (.cells #[] 24)
  have B2 : Below w.heap.size w ((w.alloc (.cells #[] 24)).alloc (.cells #[] 24)) := B1.alloc B1.size _
  rw [z1] at own2
  have h2 := h.below B2 (Nat.le_refl _)
  have hz : ((w.alloc (.cells #[] 24)).alloc (.cells #[] 24)).heap.size = w.heap.size + 2 := by simp
  clear h B1 z1
  go_enter Try.func16, Try.ntmps16
  go_wp2_with fail
  generalize (w.alloc (.cells #[] 24)).alloc (.cells #[] 24) = w2 at *
  refine (sorted_any oa n cap l w2 h2 hn).mono ?_
  rintro e w3 ⟨⟨oa3, cap3, rfl, hD3, hm3, hf3⟩, B3⟩
  have own1' := own_below own1 B3
  have own2' := own_below own2 B3
  have B4 := B2.trans (B3.mono B2.size)
  have hl3 : (sortI l).length = n := by rw [sortI_length]; exact hl
  rw [← hS] at hD3 hl3
  have z2 : w2.heap.size = w.heap.size + 2 := hz
  rw [z2] at hf3
  have own2'' := own_base own2' (show w.heap.size ≤ _ by omega)
  clear own1 own2 own2' B3 B2 h2
  go_wp2_with fail
  go_loopw [6, 7, 9, 15] (fun s6 s7 _ s15 wr => ∃ (k g6 c6 g7 c7 : Nat), k ≤ n ∧ s15 = .int .i64 k ∧ g6 ≠ g7 ∧ (∀ ad, oa3 = some ad → ad.block ≠ g6 ∧ ad.block ≠ g7 ∧ ad.block < wr.heap.size) ∧ s6 = .slice (some ⟨g6, 0, none⟩) (hereD now (S.take k)).length c6 ∧ s7 = .slice (some ⟨g7, 0, none⟩) (afterD now (S.take k)).length c7 ∧
      wr.ownsRow w.heap.size 24 2 (.slice (some ⟨g6, 0, none⟩) (hereD now (S.take k)).length c6) (hereD now (S.take k)).length (cellsD (hereD now (S.take k))) ∧
      wr.ownsRow w.heap.size 24 2 (.slice (some ⟨g7, 0, none⟩) (afterD now (S.take k)).length c7) (afterD now (S.take k)).length (cellsD (afterD now (S.take k))) ∧ Below w.heap.size w wr ∧ Ds wr oa3 n cap3 S) (fun _ _ _ s15 _ => n - (intOf s15).toNat)
  case atStart => exact ⟨0, _, _, _, _, Nat.zero_le _, rfl, by omega, fun ad e => by have := hf3 ad e; omega, rfl, rfl, own1', own2'', B4, hD3⟩
  case round =>
    clear hS own1' own2'' B4 hD3 hf3 z2 hz
    obtain ⟨k, g6, c6, g7, c7, hk, rfl, hne, hfar, rfl, rfl, own6, own7, hB, hD⟩ := hrel
    have hsB := hB.size
    by_cases hlt : k < n
    · have hr := hD.room
      obtain ⟨g0, o0, rfl, c0, c1⟩ := hD.cell k hlt
      obtain ⟨f6, f7, fz⟩ := hfar _ rfl
      dsimp only at f6 f7 fz
      have HA := Lib.hid (takeD_next S k (by omega))
      have HF := Lib.hid (afterD_snoc now (S.take k) (S.getD k (0, 0)))
      have HH := Lib.hid (hereD_snoc now (S.take k) (S.getD k (0, 0)))
      rw [← HA.out] at HF HH
      have HL6 := Lib.hid (Nat.le_trans (hereD_le now (S.take k)) (List.length_take_le k S))
      have HL7 := Lib.hid (Nat.le_trans (afterD_le now (S.take k)) (List.length_take_le k S))
      generalize S.getD k (0, 0) = x at *
      generalize hereD now (S.take k) = H0 at *
      generalize afterD now (S.take k) = A0 at *
      obtain ⟨a, i⟩ := x
      dsimp only at c0 c1
      have hx0 : (wr.alloc (.cells #[.int .i64 a, .int .i64 i] 24)).cell? ⟨wr.heap.size, 0, none⟩ = some (.int .i64 a) := by simp
      have hx1 : (wr.alloc (.cells #[.int .i64 a, .int .i64 i] 24)).cell? ⟨wr.heap.size, 1, none⟩ = some (.int .i64 i) := by simp
      have hsa : (wr.alloc (.cells #[.int .i64 a, .int .i64 i] 24)).heap.size = wr.heap.size + 1 := by simp
      have B1 : Below wr.heap.size wr (wr.alloc (.cells #[.int .i64 a, .int .i64 i] 24)) := (Below.refl _ _).alloc (Nat.le_refl _) _
      have hDa := hD.below B1 (Nat.le_refl _)
      have o6 := own6.alloc (.cells #[.int .i64 a, .int .i64 i] 24)
      have o7 := own7.alloc (.cells #[.int .i64 a, .int .i64 i] 24)
      have hBa := hB.trans (B1.mono hB.size)
      have hone := Ds.one (wr.alloc (.cells #[.int .i64 a, .int .i64 i] 24)) (a, i)
      rw [hsa] at hone
      have l6 := own6.lt g6 rfl
      have l7 := own7.lt g7 rfl
      have hl6 := HL6.out
      have hl7 := HL7.out
      have B9 : Below w.heap.size w ((wr.alloc (.cells #[.int .i64 a, .int .i64 i] 24)).alloc (.cells #[.int .i64 a, .int .i64 i] 24)) := hBa.alloc (by omega) _
      have hs9 : ((wr.alloc (.cells #[.int .i64 a, .int .i64 i] 24)).alloc (.cells #[.int .i64 a, .int .i64 i] 24)).heap.size = wr.heap.size + 2 := by simp
      have hD9 := hDa.below ((Below.refl _ _).alloc (Nat.le_refl _) (.cells #[.int .i64 a, .int .i64 i] 24)) (Nat.le_refl _)
      have o6 := o6.alloc (.cells #[.int .i64 a, .int .i64 i] 24)
      have o7 := o7.alloc (.cells #[.int .i64 a, .int .i64 i] 24)
      by_cases hna : now < a
      · simp only [hna, if_true] at HF HH
        have hle : ¬ a ≤ now := by omega
        clear hna hD own6 own7 hB B1 hfar hDa hBa
        go_wp2_with (at_builtin; refine wpList_one_d _ rfl (.tmp 27) (.tmp 29) rfl w.heap.size rfl o7 rfl hone (by omega) (by omega) ?_; intro g8 c8 w4 own8 hg8 hlies; change ((wr.alloc (.cells #[.int .i64 a, .int .i64 i] 24)).alloc (.cells #[.int .i64 a, .int .i64 i] 24)).grownBy w4 (some g7) at hg8)
        have hlies2 : g8 = g7 ∨ g8 = wr.heap.size + 2 := by
          rcases hlies with e | e
          · left; injection e with e; exact e.symm
          · right; rw [e, hs9]
        have hz4 := hg8.size
        rw [hs9] at hz4
        refine ⟨⟨k + 1, g6, c6, g8, c8, ?_⟩, by simp [intOf]; omega⟩
        rw [HH.out, HF.out, List.length_append, cellsD_append]
        exact ⟨by omega, by go_num, by omega, fun ad e => by cases e; dsimp only; omega, rfl, rfl, o6.kept hg8 (.inr (fun e => hne (by injection e))), own8, B9.grown hg8 (by omega) (fun r e => by cases e; omega), hD9.kept hg8 (fun ad e => by cases e; exact f7)⟩
      · simp only [hna, if_false] at HF HH
        have hle : a ≤ now := by omega
        clear hna hD own6 own7 hB B1 hfar hDa hBa
        go_wp2_with (at_builtin; refine wpList_one_d _ rfl (.tmp 23) (.tmp 25) rfl w.heap.size rfl o6 rfl hone (by omega) (by omega) ?_; intro g8 c8 w4 own8 hg8 hlies; change ((wr.alloc (.cells #[.int .i64 a, .int .i64 i] 24)).alloc (.cells #[.int .i64 a, .int .i64 i] 24)).grownBy w4 (some g6) at hg8)
        have hlies2 : g8 = g6 ∨ g8 = wr.heap.size + 2 := by
          rcases hlies with e | e
          · left; injection e with e; exact e.symm
          · right; rw [e, hs9]
        have hz4 := hg8.size
        rw [hs9] at hz4
        refine ⟨⟨k + 1, g8, c8, g7, c7, ?_⟩, by simp [intOf]; omega⟩
        rw [HH.out, HF.out, List.length_append, cellsD_append]
        exact ⟨by omega, by go_num, by omega, fun ad e => by cases e; dsimp only; omega, rfl, rfl, own8, o7.kept hg8 (.inr (fun e => hne (by injection e with e; exact e.symm))), B9.grown hg8 (by omega) (fun r e => by cases e; omega), hD9.kept hg8 (fun ad e => by cases e; exact f6)⟩
    · obtain rfl : k = n := by omega
      rw [List.take_of_length_le (by omega)] at own6 own7
      obtain ⟨oa1, cap1, e1, hD1, hm1⟩ := Ds.of_own rfl own6
      cases e1
      obtain ⟨oa2, cap2, e2, hD2, hm2⟩ := Ds.of_own rfl own7
      cases e2
      rw [List.take_of_length_le (by omega)]
      go_wp2_with fail
      refine bodyPost_ret (results_tmp2 rfl _ _ _) rfl ?_
      exact ⟨⟨_, _, _, _, rfl, hD1, hD2, hm1, hm2⟩, hB⟩
end Go.Proofs.Yteomenkojhppfaa
