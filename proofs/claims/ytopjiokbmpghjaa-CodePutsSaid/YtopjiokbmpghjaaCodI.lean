/-
  The program's own: a word, labels and matchers of what is left of a text.
-/
import Derived.Test.YtopjiokbmpghjaaCodH
import Derived.Test.YtopjiokbmpghjaaLApp
import Derived.Test.YtopjiokbmpghjaaMApp
import Derived.Deep.RegionHeld3
import Derived.Deep.DeepCutAuto
import Derived.Deep.CutBlock
import Derived.RegionTactic
import Derived.StillTailTactics
namespace Go.Proofs.Ytopjiokbmpghjaa
open Go.RowKit Go.Shelf
set_option linter.unusedVariables false
set_option linter.unusedSimpArgs false

theorem number_one (A : Nat) (s : SR) (hs : s.1.length ≤ 1000) (w : World) (h : Left w A s) :
    Calls Try.prog 53 #[.pointer (some ⟨A, 0, none⟩), .int .i64 1] w fun e w' => e = .returned (.int .i64 ((num 1 s).1 : Int)) ∧ Left w' A (num 1 s).2 ∧ But A w w' := number_any A s 1 hs (by omega) w h
theorem number_six (A : Nat) (s : SR) (hs : s.1.length ≤ 1000) (w : World) (h : Left w A s) :
    Calls Try.prog 53 #[.pointer (some ⟨A, 0, none⟩), .int .i64 6] w fun e w' => e = .returned (.int .i64 ((num 6 s).1 : Int)) ∧ Left w' A (num 6 s).2 ∧ But A w w' := number_any A s 6 hs (by omega) w h
theorem Left.drew {w : World} {A : Nat} {s : SR} (h : Left w A s) : Left w.drew A s := h
theorem But.grown {A : Nat} {a w w' : World} {row : Option Nat} (h : But A a w) (hg : w.grownBy w' row) (hr : ∀ k, row = some k → a.heap.size ≤ k) : But A a w' :=
  ⟨hg.os.trans h.os, hg.tape.trans h.tape, hg.output.trans h.output, Nat.le_trans h.size hg.size, fun k hk hl => (hg.block k (Nat.lt_of_lt_of_le hl h.size) (fun e => by have := hr k e.symm; omega)).trans (h.block k hk hl)⟩
theorem Left.grown {A B : Nat} {w w' : World} {s : SR} {row : Option Nat} (h : Left w A s) (hg : w.grownBy w' row) (hr : ∀ k, row = some k → B ≤ k) (hB : A < B) : Left w' A s :=
  (hg.block A (Vals.lt h) (fun e => by have := hr A e.symm; omega)).trans h
theorem But.of_drew {A : Nat} {w w' : World} (h : But A w.drew w') : But A w w' := ⟨h.os, h.tape, h.output, h.size, h.block⟩
set_option maxRecDepth 100000 in
set_option maxHeartbeats 1600000 in
theorem cword_any (A : Nat) (s : SR) (hs : s.1.length ≤ 1000) (w : World) (h : Left w A s) :
    Calls Try.prog 67 #[.pointer (some ⟨A, 0, none⟩)] w fun e w' => e = .returned (.string (tx (wrd s).1)) ∧ Left w' A (wrd s).2 ∧ But A w w' := by
  have HX : Hid (wrd s = nxt (num 1 s).1 (num 1 s).2) := rfl
  rw [HX.out]
  clear HX
  have hN := num_one_le s
  have hS := num_len 1 s
  have H1 := number_one A s hs w.drew h.drew
  have H2 := fun w h => next_any A (num 1 s).2 (num 1 s).1 (by omega) (by omega) w h
  generalize num 1 s = z at *
  obtain ⟨n, s2⟩ := z
  dsimp only at *
  generalize nxt n s2 = y at *
  clear h
  go_enter Try.func67, Try.ntmps67
  go_upto_region 1 with fail
  go_region_with (first
    | (go_at_call 66; refine (H2 _ hL1).mono ?_; rintro e w2 ⟨rfl, hL2, B2⟩; have B3 := B1.trans B2)
    | (go_at_call 53; refine H1.mono ?_; rintro e w1 ⟨rfl, hL1, B1⟩))
  all_goals
    go_wp2_with fail
    go_ret
    exact ⟨rfl, hL2, B3.of_drew⟩
set_option maxRecDepth 100000 in
set_option maxHeartbeats 3200000 in
theorem clabels_any (A : Nat) (s : SR) (hs : s.1.length ≤ 1000) (w : World) (h : Left w A s) :
    Calls Try.prog 55 #[.pointer (some ⟨A, 0, none⟩)] w fun e w' => (∃ oa n cap, e = .returned (.slice oa n cap) ∧ Ls w' oa n cap (labsR s).1 ∧ n ≤ 255 ∧ (∀ g o, oa = some ⟨g, o, none⟩ → w.heap.size ≤ g)) ∧ Left w' A (labsR s).2 ∧ But A w w' := by
  have hA := h.lt
  have hN := num_one_le s
  have hS := num_len 1 s
  have H1 := number_one A s hs w h
  have HX : Hid (labsR s = labR (num 1 s).1 (num 1 s).2) := rfl
  rw [HX.out]
  clear HX
  generalize num 1 s = z at *
  obtain ⟨N, s2⟩ := z
  dsimp only at *
  have hs2 : s2.1.length ≤ 1000 := by omega
  obtain ⟨R, hR⟩ : ∃ R, Hid (labR N s2 = R) := ⟨_, rfl⟩
  rw [hR.out]
  obtain ⟨R1, R2⟩ := R
  have hR1 : Hid ([] ++ (labR N s2).1 = R1) := by show _ = _; rw [hR.out]; rfl
  have hR2 : Hid ((labR N s2).2 = R2) := by show _ = _; rw [hR.out]
  clear hR
  dsimp only at *
  go_enter Try.func55, Try.ntmps55
  go_wp2_with fail
  refine H1.mono ?_
  rintro e w1 ⟨rfl, hL1, B1⟩
  go_wp2_with fail
  clear H1
  have own0 : w1.ownsRow w.heap.size 57 2 (.slice none 0 0) 0 (cellsL ([] : List L2)) := World.ownsRow_nil _ _ _ _
  go_loopw [3, 8] (fun s3 s8 wr => ∃ (k : Nat) (v : Value) (l : List L2) (q : SR), k ≤ N ∧ s8 = .int .i64 k ∧ s3 = v ∧ wr.ownsRow w.heap.size 57 2 v k (cellsL l) ∧ l.length = k ∧ Hid (l ++ (labR (N - k) q).1 = R1) ∧ Hid ((labR (N - k) q).2 = R2) ∧ q.1.length ≤ 1000 ∧ Left wr A q ∧ But A w wr) (fun _ s8 _ => N - (intOf s8).toNat)
  case atStart => exact ⟨0, _, [], s2, Nat.zero_le _, rfl, rfl, own0, rfl, hR1, hR2, hs2, hL1, B1⟩
  case round =>
    obtain ⟨k, v, l, q, hk, rfl, rfl, hown, hl, HA, HB, hq, hL, hB⟩ := hrel
    by_cases hlt : k < N
    · obtain ⟨m, hm⟩ : ∃ m, N - k = m + 1 := ⟨N - k - 1, by omega⟩
      have hm2 : N - (k + 1) = m := by omega
      have HA2 : Hid ((l ++ [(tx (wrd q).1, tx (wrd (wrd q).2).1)]) ++ (labR m (wrd (wrd q).2).2).1 = R1) := by
        show _ = _
        have := HA.out
        rw [hm, labR] at this
        rw [List.append_assoc]
        exact this
      have HB2 : Hid ((labR m (wrd (wrd q).2).2).2 = R2) := by
        show _ = _
        have := HB.out
        rw [hm, labR] at this
        exact this
      have q1 := wrd_left q
      have q2 := wrd_left (wrd q).2
      have HW1 := cword_any A q hq wr hL
      have HW2 := fun w h => cword_any A (wrd q).2 (by omega) w h
      generalize hg2 : wrd (wrd q).2 = y2 at *
      generalize wrd q = y1 at *
      obtain ⟨a, p1⟩ := y1
      obtain ⟨b, p2⟩ := y2
      dsimp only at *
      have hp2 : p2.1.length ≤ 1000 := by omega
      generalize tx a = a at *
      generalize tx b = b at *
      clear HA HB hm hg2 q1 q2 own0 hR1 hR2 hL1 B1
      go_wp2_with fail
      refine HW1.mono ?_
      rintro e w2 ⟨rfl, hL2, B2⟩
      have own2 := B2.own hown hA
      have B3 := hB.trans B2
      go_wp2_with fail
      refine (HW2 _ hL2).mono ?_
      rintro e w3 ⟨rfl, hL3, B4⟩
      have own3 := B4.own own2 hA
      have B5 := B3.trans B4
      have hone := Ls.one w3 (a, b)
      have hL4 : Left (w3.alloc (.cells #[.string a, .string b] 57)) A p2 := Vals.alloc (w := w3) hL3 _
      have B6 := B5.alloc (.cells #[.string a, .string b] 57)
      have hs3 := B5.size
      clear HW1 HW2 hown own2 B2 B3 B4 hL2 hL hB
      go_wp2_with (first | (at_builtin; refine wpList_append_ls _ rfl (.tmp 10) (.tmp 16) rfl w.heap.size rfl (own3.alloc _) rfl hone (by omega) (by simp <;> omega) ?_; intro v1 w4 own4 hg1))
      have hL5 := hL4.grown hg1 (fun r e => (own3.lt r e).1) hA
      have B7 := B6.grown hg1 (fun r e => (own3.lt r e).1)
      rw [← cellsL_append] at own4
      clear hone hL4 hL3 B5 B6 own3 hg1
      go_wp2_with fail
      go_roundw
      case rel => exact ⟨k + 1, v1, l ++ [(a, b)], p2, by omega, by go_num, rfl, own4, by rw [List.length_append, hl]; rfl, by rw [hm2]; exact HA2, by rw [hm2]; exact HB2, hp2, hL5, B7⟩
      case measure => simp [intOf]; omega
    · obtain rfl : k = N := by omega
      have HF : Hid (l = R1) := by
        show _ = _
        have := HA.out
        rw [Nat.sub_self, labR, List.append_nil] at this
        exact this
      have HG : Hid (q = R2) := by
        show _ = _
        have := HB.out
        rw [Nat.sub_self, labR] at this
        exact this
      have hlt2 := hown.lt
      obtain ⟨oa, cap, rfl, hO, _⟩ := Ls.of_own hl hown
      clear HA HB own0 hR1 hR2
      go_wp2_with fail
      go_ret
      exact ⟨⟨oa, k, cap, rfl, HF.out ▸ hO, hN, fun g o e => (hlt2 g (by rw [e]; rfl)).1⟩, HG.out ▸ hL, hB⟩
set_option maxRecDepth 100000 in
set_option maxHeartbeats 3200000 in
theorem cmatchers_any (A : Nat) (s : SR) (hs : s.1.length ≤ 1000) (w : World) (h : Left w A s) :
    Calls Try.prog 68 #[.pointer (some ⟨A, 0, none⟩)] w fun e w' => (∃ oa n cap, e = .returned (.slice oa n cap) ∧ Ms w' oa n cap (matsR s).1 ∧ n ≤ 255 ∧ (∀ g o, oa = some ⟨g, o, none⟩ → w.heap.size ≤ g)) ∧ Left w' A (matsR s).2 ∧ But A w w' := by
  have hA := h.lt
  have hN := num_one_le s
  have hS := num_len 1 s
  have H1 := number_one A s hs w h
  have HX : Hid (matsR s = matR (num 1 s).1 (num 1 s).2) := rfl
  rw [HX.out]
  clear HX
  generalize num 1 s = z at *
  obtain ⟨N, s2⟩ := z
  dsimp only at *
  have hs2 : s2.1.length ≤ 1000 := by omega
  obtain ⟨R, hR⟩ : ∃ R, Hid (matR N s2 = R) := ⟨_, rfl⟩
  rw [hR.out]
  obtain ⟨R1, R2⟩ := R
  have hR1 : Hid ([] ++ (matR N s2).1 = R1) := by show _ = _; rw [hR.out]; rfl
  have hR2 : Hid ((matR N s2).2 = R2) := by show _ = _; rw [hR.out]
  clear hR
  dsimp only at *
  go_enter Try.func68, Try.ntmps68
  go_wp2_with fail
  refine H1.mono ?_
  rintro e w1 ⟨rfl, hL1, B1⟩
  go_wp2_with fail
  clear H1
  have own0 : w1.ownsRow w.heap.size 45 3 (.slice none 0 0) 0 (cellsM ([] : List M3)) := World.ownsRow_nil _ _ _ _
  go_loopw [3, 8] (fun s3 s8 wr => ∃ (k : Nat) (v : Value) (l : List M3) (q : SR), k ≤ N ∧ s8 = .int .i64 k ∧ s3 = v ∧ wr.ownsRow w.heap.size 45 3 v k (cellsM l) ∧ l.length = k ∧ Hid (l ++ (matR (N - k) q).1 = R1) ∧ Hid ((matR (N - k) q).2 = R2) ∧ q.1.length ≤ 1000 ∧ Left wr A q ∧ But A w wr) (fun _ s8 _ => N - (intOf s8).toNat)
  case atStart => exact ⟨0, _, [], s2, Nat.zero_le _, rfl, rfl, own0, rfl, hR1, hR2, hs2, hL1, B1⟩
  case round =>
    obtain ⟨k, v, l, q, hk, rfl, rfl, hown, hl, HA, HB, hq, hL, hB⟩ := hrel
    by_cases hlt : k < N
    · obtain ⟨m, hm⟩ : ∃ m, N - k = m + 1 := ⟨N - k - 1, by omega⟩
      have hm2 : N - (k + 1) = m := by omega
      have HA2 : Hid ((l ++ [(((num 1 q).1 : Int), tx (wrd (num 1 q).2).1, tx (wrd (wrd (num 1 q).2).2).1)]) ++ (matR m (wrd (wrd (num 1 q).2).2).2).1 = R1) := by
        show _ = _
        have := HA.out
        rw [hm, matR] at this
        rw [List.append_assoc]
        exact this
      have HB2 : Hid ((matR m (wrd (wrd (num 1 q).2).2).2).2 = R2) := by
        show _ = _
        have := HB.out
        rw [hm, matR] at this
        exact this
      have q0 := num_len 1 q
      have q1 := wrd_left (num 1 q).2
      have q2 := wrd_left (wrd (num 1 q).2).2
      have HW0 := number_one A q hq wr hL
      have HW1 := fun w h => cword_any A (num 1 q).2 (by omega) w h
      have HW2 := fun w h => cword_any A (wrd (num 1 q).2).2 (by omega) w h
      generalize hg2 : wrd (wrd (num 1 q).2).2 = y2 at *
      generalize hg1' : wrd (num 1 q).2 = y1 at *
      generalize num 1 q = y0 at *
      obtain ⟨c, p0⟩ := y0
      obtain ⟨a, p1⟩ := y1
      obtain ⟨b, p2⟩ := y2
      dsimp only at *
      have hp2 : p2.1.length ≤ 1000 := by omega
      generalize tx a = a at *
      generalize tx b = b at *
      clear HA HB hm hg2 hg1' q0 q1 q2 own0 hR1 hR2 hL1 B1
      go_wp2_with fail
      refine HW0.mono ?_
      rintro e w9 ⟨rfl, hL9, B9⟩
      have own9 := B9.own hown hA
      have B8 := hB.trans B9
      go_wp2_with fail
      refine (HW1 _ hL9).mono ?_
      rintro e w2 ⟨rfl, hL2, B2⟩
      have own2 := B2.own own9 hA
      have B3 := B8.trans B2
      go_wp2_with fail
      refine (HW2 _ hL2).mono ?_
      rintro e w3 ⟨rfl, hL3, B4⟩
      have own3 := B4.own own2 hA
      have B5 := B3.trans B4
      have hone := Ms.one w3 ((c : Int), a, b)
      have hL4 : Left (w3.alloc (.cells #[.int .i64 (c : Int), .string a, .string b] 45)) A p2 := Vals.alloc (w := w3) hL3 _
      have B6 := B5.alloc (.cells #[.int .i64 (c : Int), .string a, .string b] 45)
      have hs3 := B5.size
      clear HW0 HW1 HW2 hown own2 own9 B9 B8 hL9 B2 B3 B4 hL2 hL hB
      go_wp2_with (first | (at_builtin; refine wpList_append_ms _ rfl (.tmp 10) (.tmp 20) rfl w.heap.size rfl (own3.alloc _) rfl hone (by omega) (by simp <;> omega) ?_; intro v1 w4 own4 hg1))
      have hL5 := hL4.grown hg1 (fun r e => (own3.lt r e).1) hA
      have B7 := B6.grown hg1 (fun r e => (own3.lt r e).1)
      rw [← cellsM_append] at own4
      clear hone hL4 hL3 B5 B6 own3 hg1
      go_wp2_with fail
      go_roundw
      case rel => exact ⟨k + 1, v1, l ++ [((c : Int), a, b)], p2, by omega, by go_num, rfl, own4, by rw [List.length_append, hl]; rfl, by rw [hm2]; exact HA2, by rw [hm2]; exact HB2, hp2, hL5, B7⟩
      case measure => simp [intOf]; omega
    · obtain rfl : k = N := by omega
      have HF : Hid (l = R1) := by
        show _ = _
        have := HA.out
        rw [Nat.sub_self, matR, List.append_nil] at this
        exact this
      have HG : Hid (q = R2) := by
        show _ = _
        have := HB.out
        rw [Nat.sub_self, matR] at this
        exact this
      have hlt2 := hown.lt
      obtain ⟨oa, cap, rfl, hO, _⟩ := Ms.of_own hl hown
      clear HA HB own0 hR1 hR2
      go_wp2_with fail
      go_ret
      exact ⟨⟨oa, k, cap, rfl, HF.out ▸ hO, hN, fun g o e => (hlt2 g (by rw [e]; rfl)).1⟩, HG.out ▸ hL, hB⟩
end Go.Proofs.Ytopjiokbmpghjaa
