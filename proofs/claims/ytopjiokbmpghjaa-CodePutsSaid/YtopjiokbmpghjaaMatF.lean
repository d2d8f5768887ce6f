/-
  The first matcher of which something is told.
-/
import Derived.Test.YtopjiokbmpghjaaLabN
namespace Go.Proofs.Ytopjiokbmpghjaa
open Go.RowKit Go.Shelf
set_option linter.unusedVariables false

/-- what a function tells of a matcher: in this world and those above it -/
def TellsM (w : World) (g : Nat) (cb : Array Value) (p : M3 → Bool) : Prop := ∀ (x : M3) (b : Bool) (W : World), b = p x → Below w.heap.size w W → Calls Try.prog g (#[aggM x] ++ cb) W fun e w' => e = .returned (.bool b) ∧ Below W.heap.size W w'
set_option maxRecDepth 100000 in
set_option maxHeartbeats 1600000 in
/-- the first matcher of which it is told, or -1 -/
theorem idxM_any (g : Nat) (cb : Array Value) (p : M3 → Bool) (oa : Option Addr) (n cap : Nat) (l : List M3) (w : World) (h : Ms w oa n cap l) (hn : n ≤ 9223372036854775807) (hp : TellsM w g cb p) (eg : ∀ args w, (callFunc g args).run Try.prog w = .ok (.enter g args) w) :
    Calls Try.prog 79 #[.slice oa n cap, .func (.func g) #[] cb] w fun e w' => (∃ r : Int, e = .returned (.int .i64 r) ∧ decide (0 ≤ r) = l.any p) ∧ Below w.heap.size w w' := by
  have hl := h.len
  have hr := h.room
  go_enter Try.func79, Try.ntmps79
  go_wp2_with fail
  go_loopw [5, 8] (fun _ s8 wr => ∃ k : Nat, k ≤ n ∧ s8 = .int .i64 k ∧ Below w.heap.size w wr ∧ (l.take k).any p = false) (fun _ s8 _ => n - (intOf s8).toNat)
  case atStart => exact ⟨0, Nat.zero_le _, rfl, Below.refl _ _, by simp⟩
  case round =>
    obtain ⟨k, hk, rfl, hB, hall⟩ := hrel
    have HA := Lib.hid hall
    clear hall
    by_cases hlt : k < n
    · obtain ⟨g', o, rfl, c0, c1, c2⟩ := (h.below hB (Nat.le_refl _)).cell k hlt
      have HX := Lib.hid (anyM_next p l k (by omega) HA.out)
      have HN := Lib.hid (anyM_hit p l k (by omega))
      generalize hx : l.getD k zM = x at *
      obtain ⟨a, s, t⟩ := x
      dsimp only at c0 c1 c2
      cases hb : p (a, s, t) with
      | false =>
        have HT := fun W => hp (a, s, t) false W hb.symm
        dsimp only [aggM] at HT
        have HY := Lib.hid (HX.out hb)
        clear hb HX HN hx hl h hp
        go_wp2_with fail
        refine (HT _ hB).mono ?_
        rintro e w' ⟨rfl, B1⟩
        go_wp2_with fail
        go_roundw
        case rel => exact ⟨k + 1, by omega, by go_num, hB.trans (B1.mono hB.size), HY.out⟩
        case measure => simp [intOf]; omega
      | true =>
        have HT := fun W => hp (a, s, t) true W hb.symm
        dsimp only [aggM] at HT
        have HY := Lib.hid (HN.out hb)
        clear hb HX HN hx hl h hp
        go_wp2_with fail
        refine (HT _ hB).mono ?_
        rintro e w' ⟨rfl, B1⟩
        go_wp2_with fail
        go_ret
        exact ⟨⟨_, rfl, by rw [HY.out]; simp⟩, hB.trans (B1.mono hB.size)⟩
    · obtain rfl : k = n := by omega
      have HF : Hid (l.any p = false) := by
        have h := HA.out
        rw [List.take_of_length_le (by omega)] at h
        exact h
      clear HA hl h hp
      go_wp2_with fail
      go_ret
      exact ⟨⟨_, rfl, by rw [HF.out]; simp⟩, hB⟩
set_option maxRecDepth 100000 in
set_option maxHeartbeats 800000 in
theorem contM_any (g : Nat) (cb : Array Value) (p : M3 → Bool) (oa : Option Addr) (n cap : Nat) (l : List M3) (w : World) (h : Ms w oa n cap l) (hn : n ≤ 9223372036854775807) (hp : TellsM w g cb p) (eg : ∀ args w, (callFunc g args).run Try.prog w = .ok (.enter g args) w) :
    Calls Try.prog 73 #[.slice oa n cap, .func (.func g) #[] cb] w fun e w' => e = .returned (.bool (l.any p)) ∧ Below w.heap.size w w' := by
  have HT := idxM_any g cb p oa n cap l w h hn hp eg
  clear h hp eg
  go_enter Try.func73, Try.ntmps73
  go_wp2_with fail
  refine HT.mono ?_
  rintro e w' ⟨⟨r, rfl, hr⟩, B⟩
  have HR := Lib.hid hr
  clear hr
  go_wp2_with fail
  go_ret
  exact ⟨retB (by first | exact HR.out | simpa using HR.out), B⟩
end Go.Proofs.Ytopjiokbmpghjaa
