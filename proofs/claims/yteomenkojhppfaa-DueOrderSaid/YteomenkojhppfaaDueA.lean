/-
  Dues: package due's own small functions: which dues may be.
-/
import Derived.Test.YteomenkojhppfaaDueM
import Derived.Shelf.Abstract
namespace Go.Proofs.Yteomenkojhppfaa
open Go.RowKit Go.Shelf
set_option linter.unusedVariables false

set_option maxRecDepth 100000 in
set_option maxHeartbeats 1600000 in
/-- the first due that has no time, or -1 -/
theorem idx_any (oa : Option Addr) (n cap : Nat) (l : List D2) (w : World) (h : Ds w oa n cap l) (hn : n ≤ 70) :
    Calls Try.prog 29 #[.slice oa n cap, .func (.func 19) #[] #[]] w fun e w' => (∃ r : Int, e = .returned (.int .i64 r) ∧ decide (0 ≤ r) = !l.all (fun x => timeB x.1)) ∧ Below w.heap.size w w' := by
  have hl := h.len
  have hr := h.room
  have eg : ∀ args w, (callFunc 19 args).run Try.prog w = .ok (.enter 19 args) w := enters_of Try.func19 (by kernel_rfl) rfl
  go_enter Try.func29, Try.ntmps29
  go_wp2_with fail
  go_loopw [5, 8] (fun _ s8 wr => ∃ k : Nat, k ≤ n ∧ s8 = .int .i64 k ∧ Below w.heap.size w wr ∧ (l.take k).all (fun x => timeB x.1) = true) (fun _ s8 _ => n - (intOf s8).toNat)
  case atStart => exact ⟨0, Nat.zero_le _, rfl, Below.refl _ _, by simp⟩
  case round =>
    obtain ⟨k, hk, rfl, hB, hall⟩ := hrel
    have HA := Lib.hid hall
    clear hall
    by_cases hlt : k < n
    · obtain ⟨g, o, rfl, c0, c1⟩ := (h.below hB (Nat.le_refl _)).cell k hlt
      have HX := Lib.hid (allD_next l k (by omega) HA.out)
      have HN := Lib.hid (allD_not l k (by omega))
      generalize hx : l.getD k (0, 0) = x at *
      obtain ⟨a, i⟩ := x
      dsimp only at c0 c1
      cases hb : timeB a with
      | true =>
        have HT := fun w => noTime_any a i w
        simp only [hb, Bool.not_true] at HT
        have HY := Lib.hid (HX.out hb)
        clear hb HX HN hx hl h
        go_wp2_with fail
        refine (HT _).mono ?_
        rintro e w' ⟨rfl, B1⟩
        go_wp2_with fail
        go_roundw
        case rel => exact ⟨k + 1, by omega, by go_num, hB.trans (B1.mono (by have := hB.size; simpa using this)), HY.out⟩
        case measure => simp [intOf]; omega
      | false =>
        have HT := fun w => noTime_any a i w
        simp only [hb, Bool.not_false] at HT
        have HY := Lib.hid (HN.out hb)
        clear hb HX HN hx hl h
        go_wp2_with fail
        refine (HT _).mono ?_
        rintro e w' ⟨rfl, B1⟩
        go_wp2_with fail
        go_ret
        exact ⟨⟨_, rfl, by rw [HY.out]; simp⟩, hB.trans (B1.mono (by have := hB.size; simpa using this))⟩
    · obtain rfl : k = n := by omega
      have HF : Hid (l.all (fun x => timeB x.1) = true) := by
        have h := HA.out
        rw [List.take_of_length_le (by omega)] at h
        exact h
      clear HA hl h
      go_wp2_with fail
      go_ret
      exact ⟨⟨_, rfl, by rw [HF.out]; simp⟩, hB⟩
set_option maxHeartbeats 800000 in
theorem cont_any (oa : Option Addr) (n cap : Nat) (l : List D2) (w : World) (h : Ds w oa n cap l) (hn : n ≤ 70) :
    Calls Try.prog 25 #[.slice oa n cap, .func (.func 19) #[] #[]] w fun e w' => e = .returned (.bool (!l.all (fun x => timeB x.1))) ∧ Below w.heap.size w w' := by
  have HT := idx_any oa n cap l w h hn
  clear h
  go_enter Try.func25, Try.ntmps25
  go_wp2_with fail
  refine HT.mono ?_
  rintro e w' ⟨⟨r, rfl, hr⟩, B⟩
  have HR := Lib.hid hr
  clear hr
  go_wp2_with fail
  go_ret
  exact ⟨retB (by first | exact HR.out | simpa using HR.out), B⟩
set_option maxHeartbeats 800000 in
theorem due_any (oa : Option Addr) (n cap : Nat) (l : List D2) (w : World) (h : Ds w oa n cap l) (hn : n ≤ 70) :
    Calls Try.prog 10 #[.slice oa n cap] w fun e w' => e = .returned (.bool (dueB l)) ∧ Below w.heap.size w w' := by
  have hl := h.len
  by_cases h64 : n ≤ 64
  · have hc := cont_any oa n cap l w h hn
    cases hb : l.all (fun x => timeB x.1) with
    | true =>
      simp only [hb, Bool.not_true] at hc
      have HD := Lib.hid (show dueB l = true by unfold dueB; simp only [hb]; simp; omega)
      clear hb h hl
      go_enter Try.func10, Try.ntmps10
      go_wp2_with fail
      refine hc.mono ?_
      rintro e w' ⟨rfl, B⟩
      go_wp2_with fail
      go_ret
      exact ⟨retB HD.out.symm, B⟩
    | false =>
      simp only [hb, Bool.not_false] at hc
      have HD := Lib.hid (show dueB l = false by unfold dueB; simp only [hb]; simp)
      clear hb h hl
      go_enter Try.func10, Try.ntmps10
      go_wp2_with fail
      refine hc.mono ?_
      rintro e w' ⟨rfl, B⟩
      go_wp2_with fail
      go_ret
      exact ⟨retB HD.out.symm, B⟩
  · have HD := Lib.hid (show dueB l = false by unfold dueB; simp; omega)
    clear h hl
    go_enter Try.func10, Try.ntmps10
    go_wp2_with fail
    go_ret
    exact ⟨retB HD.out.symm, Below.refl _ _⟩
theorem due_is (oa : Option Addr) (n cap : Nat) (l : List D2) (b : Bool) (w : World) (h : Ds w oa n cap l) (hn : n ≤ 70) (hb : b = dueB l) :
    Calls Try.prog 10 #[.slice oa n cap] w fun e w' => e = .returned (.bool b) ∧ Below w.heap.size w w' := by subst hb; exact due_any oa n cap l w h hn
end Go.Proofs.Yteomenkojhppfaa
