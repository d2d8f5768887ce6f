/-
  Dues: Drain.
-/
import Derived.Test.YteomenkojhppfaaDueA
import Derived.Test.YteomenkojhppfaaDueS
import Derived.Test.YteomenkojhppfaaDueQ
namespace Go.Proofs.Yteomenkojhppfaa
open Go.RowKit Go.Conc
set_option linter.unusedVariables false

theorem mkDue (n : Nat) (hn : n ≤ 70) (w : World) : (Instr.makeChan 46 (.int .i64 (n : Int))).run Try.prog w = .ok (.chan (some w.heap.size)) (w.alloc (.chan n #[] false 0 0 false)) := by
  obtain ⟨i0, hi, hz0, hz1, hz2⟩ := info_parts infoDue
  exact run_makeChan (P := Try.prog) (w := w) Try.underlying46 hi .i64 n (by omega) (by rw [hz2]; omega)
theorem below_of_kc {B c : Nat} {w w' : World} (h : w.grownBy w' (some c)) (hB : B ≤ w.heap.size) (hc : B ≤ c) : Below B w w' :=
  (Below.refl B w).grown h hB (fun k e => by cases e; exact hc)
set_option maxRecDepth 100000 in
set_option maxHeartbeats 4000000 in
theorem drain_yes (oa : Option Addr) (n cap : Nat) (l : List D2) (now : Int) (w : World) (h : Ds w oa n cap l) (hn : n ≤ 70) (hb : true = dueB l) (ht : true = timeB now) :
    Calls Try.prog 9 #[.slice oa n cap, .int .i64 now] w fun e w' => (∃ oa1 cap1 oa2 cap2, e = .returned (.tuple #[.slice oa1 (afterD now (sortD l)).length cap1, .slice oa2 (hereD now (sortD l)).length cap2, .int .i64 0]) ∧
      Ds w' oa1 (afterD now (sortD l)).length cap1 (afterD now (sortD l)) ∧ Ds w' oa2 (hereD now (sortD l)).length cap2 (hereD now (sortD l)) ∧ cap1 ≤ maxLen ∧ cap2 ≤ maxLen) ∧ Below w.heap.size w w' := by
  have hl := h.len
  have h1 := fun w h => due_is oa n cap l true w h hn hb
  have h2 := fun w => time_is now true w ht
  clear hb ht
  go_enter Try.func9, Try.ntmps9
  go_wp2_with fail
  refine (h1 _ h).mono ?_
  rintro e w1 ⟨rfl, B1⟩
  go_wp2_with fail
  refine (h2 _).mono ?_
  rintro e w' ⟨rfl, rfl⟩
  have hmk := mkDue n hn
  have hD1 := h.below B1 (Nat.le_refl _)
  have hs1 := B1.size
  clear h1 h2 h
  go_wp2_with fail
  have hch : Chan (w1.alloc (.chan n #[] false 0 0 false)) w1.heap.size n [] := ⟨0, 0, World.alloc_heap_new w1 _⟩
  have B2 : Below w.heap.size w (w1.alloc (.chan n #[] false 0 0 false)) := B1.alloc hs1 _
  have hD2 := hD1.below ((Below.refl w1.heap.size w1).alloc (Nat.le_refl _) (.chan n #[] false 0 0 false)) (Nat.le_refl _)
  have hcs : w1.heap.size < (w1.alloc (.chan n #[] false 0 0 false)).heap.size := by simp
  generalize w1.alloc (.chan n #[] false 0 0 false) = w2 at *
  generalize w1.heap.size = c at *
  clear hD1 B1 hmk
  refine (inOrder_any oa n cap l hn w2 hD2).mono ?_
  rintro e w3 ⟨⟨oa3, cap3, rfl, hD3, hm3⟩, B3⟩
  have hch3 : Chan w3 c n [] := by
    obtain ⟨s, r, q⟩ := hch
    exact ⟨s, r, (B3.block c hcs).trans q⟩
  have B3' := B2.trans (B3.mono (by omega))
  have hs3 := B3'.size
  clear hch hD2 B2
  go_wp2_with fail
  refine (sent_any c n oa3 n cap3 (sortD l) now w3 hD3 hn hch3 (Nat.le_refl _)).mono ?_
  rintro e w4 ⟨v4, rfl, ⟨oa4, cap4, rfl, hD4, hm4⟩, hch4, hg4⟩
  have hq4 : (hereD now (sortD l)).length ≤ 70 := by have := hereD_le now (sortD l); rw [sortD_length] at this; omega
  have B4 := B3'.trans (below_of_kc hg4 hs3 hs1)
  clear hch3 hD3 hg4 B3 B3'
  go_wp2_with fail
  refine (received_any c n (hereD now (sortD l)) w4 hq4 hch4).mono ?_
  rintro e w5 ⟨v5, rfl, ⟨oa5, cap5, rfl, hD5, hm5⟩, hg5⟩
  have hD6 := hD4.chan hch4 hg5
  have B5 := B4.trans (below_of_kc hg5 B4.size hs1)
  go_wp2_with fail
  refine bodyPost_ret (results_tmp3 rfl _ _ _) rfl ?_
  exact ⟨⟨_, _, _, _, rfl, hD6, hD5, hm4, hm5⟩, B5⟩
set_option maxHeartbeats 1600000 in
theorem drain_no (oa : Option Addr) (n cap : Nat) (l : List D2) (now : Int) (w : World) (h : Ds w oa n cap l) (hn : n ≤ 70) (hb : dueB l = false ∨ timeB now = false) :
    Calls Try.prog 9 #[.slice oa n cap, .int .i64 now] w fun e w' => e = .returned (.tuple #[.slice none 0 0, .slice none 0 0, .int .i64 1]) ∧ Below w.heap.size w w' := by
  have h1 := fun b w h => due_is oa n cap l b w h hn
  have h2 := fun b w => time_is now b w
  by_cases hd : dueB l = false
  · have h1 := h1 false w h hd.symm
    clear h h2 hb hd
    go_enter Try.func9, Try.ntmps9
    go_wp2_with fail
    refine h1.mono ?_
    rintro e w1 ⟨rfl, B1⟩
    go_wp2_with fail
    refine bodyPost_ret (results_tmp3 rfl _ _ _) rfl ?_
    exact ⟨rfl, B1⟩
  · have h1 := h1 true w h (by cases hx : dueB l <;> simp_all)
    have h2 := fun w => h2 false w (by rcases hb with hb | hb <;> simp_all)
    clear h hb hd
    go_enter Try.func9, Try.ntmps9
    go_wp2_with fail
    refine h1.mono ?_
    rintro e w1 ⟨rfl, B1⟩
    go_wp2_with fail
    refine (h2 _).mono ?_
    rintro e w' ⟨rfl, rfl⟩
    go_wp2_with fail
    refine bodyPost_ret (results_tmp3 rfl _ _ _) rfl ?_
    exact ⟨rfl, B1⟩
end Go.Proofs.Yteomenkojhppfaa
