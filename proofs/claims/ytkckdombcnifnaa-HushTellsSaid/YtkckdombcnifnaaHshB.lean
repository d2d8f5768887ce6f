/-
  The first hush of which something is told; which rows are hushes.
-/
import Derived.Test.YtkckdombcnifnaaHshA
import Derived.Test.YtkckdombcnifnaaHshU
import Derived.BigQuiet
namespace Go.Proofs.Ytkckdombcnifnaa
open Go.RowKit Go.Shelf
set_option linter.unusedVariables false

theorem anyH_next (p : H5 → Bool) (l : List H5) (k : Nat) (hk : k < l.length) (h : (l.take k).any p = false) (hs : p (l.getD k zH) = false) : (l.take (k + 1)).any p = false := by
  rw [takeH_next l k hk, List.any_append, h]
  simpa using hs
theorem anyH_hit (p : H5 → Bool) (l : List H5) (k : Nat) (hk : k < l.length) (hs : p (l.getD k zH) = true) : l.any p = true := by
  rw [getD_H l k hk] at hs
  rw [List.any_eq_true]
  exact ⟨l[k], List.getElem_mem _, hs⟩
/-- what a function tells of the hushes of a row: in this world and those above it -/
def TellsH (w : World) (l : List H5) (g : Nat) (cb : Array Value) (p : H5 → Bool) : Prop := ∀ (x : H5) (b : Bool) (W : World), x ∈ l → b = p x → Below w.heap.size w W → Calls Try.prog g (#[aggH x] ++ cb) W fun e w' => e = .returned (.bool b) ∧ Below W.heap.size W w'
theorem TellsH.up {w w1 : World} {l : List H5} {g : Nat} {cb : Array Value} {p : H5 → Bool} (h : TellsH w l g cb p) (hB : Below w.heap.size w w1) : TellsH w1 l g cb p := fun x b W hm hb h2 => h x b W hm hb (hB.trans (h2.mono hB.size))
theorem TellsH.sub {w : World} {l m : List H5} {g : Nat} {cb : Array Value} {p : H5 → Bool} (h : TellsH w l g cb p) (hm : ∀ x ∈ m, x ∈ l) : TellsH w m g cb p := fun x b W hx hb h2 => h x b W (hm x hx) hb h2
/-- the first place at which it is told, or -1 -/
def FirstH (l : List H5) (p : H5 → Bool) (r : Int) : Prop := (r = -1 ∧ l.any p = false) ∨ ∃ k : Nat, k < l.length ∧ r = (k : Int) ∧ (l.take k).any p = false ∧ p (l.getD k zH) = true
theorem FirstH.any {l : List H5} {p : H5 → Bool} {r : Int} (h : FirstH l p r) : decide (0 ≤ r) = l.any p := by
  rcases h with ⟨rfl, h⟩ | ⟨k, hk, rfl, _, h⟩
  · rw [h]; rfl
  · rw [anyH_hit p l k hk h]; simp
set_option maxRecDepth 100000 in
set_option maxHeartbeats 1600000 in
theorem idxH_any (g : Nat) (cb : Array Value) (p : H5 → Bool) (oa : Option Addr) (n cap : Nat) (l : List H5) (w : World) (h : Hs w oa n cap l) (hn : n ≤ 3074457345618258602) (hp : TellsH w l g cb p) (eg : ∀ args w, (callFunc g args).run Try.prog w = .ok (.enter g args) w) :
    Calls Try.prog 51 #[.slice oa n cap, .func (.func g) #[] cb] w fun e w' => (∃ r : Int, e = .returned (.int .i64 r) ∧ FirstH l p r) ∧ Below w.heap.size w w' := by
  have hl := h.len
  have hr := h.room
  go_enter Try.func51, Try.ntmps51
  go_wp2_with fail
  go_loopw [5, 8] (fun _ s8 wr => ∃ k : Nat, k ≤ n ∧ s8 = .int .i64 k ∧ Below w.heap.size w wr ∧ (l.take k).any p = false) (fun _ s8 _ => n - (intOf s8).toNat)
  case atStart => exact ⟨0, Nat.zero_le _, rfl, Below.refl _ _, by simp⟩
  case round =>
    obtain ⟨k, hk, rfl, hB, hall⟩ := hrel
    have HA := Lib.hid hall
    clear hall
    by_cases hlt : k < n
    · obtain ⟨g', o, rfl, c0, c1, c2⟩ := (h.below hB (Nat.le_refl _)).cell k hlt
      have HX := Lib.hid (anyH_next p l k (by omega) HA.out)
      have HN : Hid (p (l.getD k zH) = true → FirstH l p (k : Int)) := fun q => .inr ⟨k, by omega, rfl, HA.out, q⟩
      have hm := getD_mem l k (by omega)
      generalize hx : l.getD k zH = x at *
      obtain ⟨a, s, pa, i, j, ms⟩ := x
      dsimp only at c0 c1 c2
      cases hb : p ⟨a, s, pa, i, j, ms⟩ with
      | false =>
        have HT := fun W => hp ⟨a, s, pa, i, j, ms⟩ false W hm hb.symm
        dsimp only [aggH, vH] at HT
        have HY := Lib.hid (HX.out hb)
        clear hb HX HN hx hl h hp hm
        go_wp2_with fail
        refine (HT _ hB).mono ?_
        rintro e w' ⟨rfl, B1⟩
        go_wp2_with fail
        go_roundw
        case rel => exact ⟨k + 1, by omega, by go_num, hB.trans (B1.mono hB.size), HY.out⟩
        case measure => simp [intOf]; omega
      | true =>
        have HT := fun W => hp ⟨a, s, pa, i, j, ms⟩ true W hm hb.symm
        dsimp only [aggH, vH] at HT
        have HY := Lib.hid (HN.out hb)
        clear hb HX HN hx hl h hp hm
        go_wp2_with fail
        refine (HT _ hB).mono ?_
        rintro e w' ⟨rfl, B1⟩
        go_wp2_with fail
        go_ret
        exact ⟨⟨_, rfl, HY.out⟩, hB.trans (B1.mono hB.size)⟩
    · obtain rfl : k = n := by omega
      have HF : Hid (FirstH l p (-1)) := by
        have h := HA.out
        rw [List.take_of_length_le (by omega)] at h
        exact .inl ⟨rfl, h⟩
      clear HA hl h hp
      go_wp2_with fail
      go_ret
      exact ⟨⟨_, rfl, HF.out⟩, hB⟩
set_option maxRecDepth 100000 in
set_option maxHeartbeats 800000 in
theorem contH_any (g : Nat) (cb : Array Value) (p : H5 → Bool) (oa : Option Addr) (n cap : Nat) (l : List H5) (w : World) (h : Hs w oa n cap l) (hn : n ≤ 3074457345618258602) (hp : TellsH w l g cb p) (eg : ∀ args w, (callFunc g args).run Try.prog w = .ok (.enter g args) w) :
    Calls Try.prog 33 #[.slice oa n cap, .func (.func g) #[] cb] w fun e w' => e = .returned (.bool (l.any p)) ∧ Below w.heap.size w w' := by
  have HT := idxH_any g cb p oa n cap l w h hn hp eg
  clear h hp eg
  go_enter Try.func33, Try.ntmps33
  go_wp2_with fail
  refine HT.mono ?_
  rintro e w' ⟨⟨r, rfl, hr⟩, B⟩
  have HR := Lib.hid hr.any
  clear hr
  go_wp2_with fail
  go_ret
  exact ⟨retB (by first | exact HR.out | simpa using HR.out), B⟩
theorem enter_noneH : ∀ args w, (callFunc 23 args).run Try.prog w = .ok (.enter 23 args) w := enters_of Try.func23 (by kernel_rfl) rfl
theorem tells_noneH (w : World) (l : List H5) (h : Lk w l) : TellsH w l 23 #[] (fun x => !okT (h3 x)) := fun x b W hm hb hB => by
  subst hb
  exact noneH_any x.f x.t x.pa x.n x.c x.ms W ((h x hm).1.below hB (Nat.le_refl _)) (h x hm).2
theorem any_map (l : List H5) (p : T3 → Bool) : (l.any fun x => p (h3 x)) = (l.map h3).any p := by rw [List.any_map]; rfl
set_option maxRecDepth 100000 in
set_option maxHeartbeats 800000 in
theorem hshR_any (oa : Option Addr) (n cap : Nat) (l : List H5) (w : World) (h : Hs w oa n cap l) (hk : Lk w l) (hn : n ≤ 3074457345618258602) :
    Calls Try.prog 13 #[.slice oa n cap] w fun e w' => e = .returned (.bool (hshT (l.map h3))) ∧ Below w.heap.size w w' := by
  have hl := h.len
  have HP : Hid (hshT (l.map h3) = (decide (n ≤ 8) && !(l.map h3).any fun x => !okT x)) := by show _ = _; rw [← hl, ← List.length_map (f := h3)]; rfl
  by_cases h8 : n ≤ 8
  · have hc := contH_any _ #[] _ oa n cap l w h hn (tells_noneH w l hk) enter_noneH
    rw [any_map l fun x => !okT x] at hc
    generalize ((l.map h3).any fun x => !okT x) = b at *
    clear h hl hk
    go_enter Try.func13, Try.ntmps13
    go_wp2_with fail
    refine hc.mono ?_
    rintro e w' ⟨rfl, B⟩
    go_wp2_with fail
    go_ret
    exact ⟨retB (by rw [HP.out]; simp [h8]), B⟩
  · clear h hl hk
    go_enter Try.func13, Try.ntmps13
    go_wp2_with fail
    go_ret
    exact ⟨retB (by rw [HP.out]; simp [h8]), Below.refl _ _⟩
/-- what may be asked -/
def mayT (l : List T3) (L : List L2) (now : Int) : Bool := hshT l && (rightB L && timeB now)
set_option maxRecDepth 100000 in
set_option maxHeartbeats 800000 in
theorem may_any (oa : Option Addr) (n cap : Nat) (l : List H5) (ob : Option Addr) (nb cb : Nat) (L : List L2) (now : Int) (w : World) (h : Hs w oa n cap l) (hk : Lk w l) (hn : n ≤ 3074457345618258602) (hL : Ls w ob nb cb L) (hnb : nb ≤ 4611686018427387904) :
    Calls Try.prog 28 #[.slice oa n cap, .slice ob nb cb, .int .i64 now] w fun e w' => e = .returned (.bool (mayT (l.map h3) L now)) ∧ Below w.heap.size w w' := by
  have HM : Hid (mayT (l.map h3) L now = (hshT (l.map h3) && (rightB L && timeB now))) := rfl
  have HT := hshR_any oa n cap l w h hk hn
  have HU := fun w1 (B1 : Below w.heap.size w w1) => right_any ob nb cb L w1 (hL.below B1 (Nat.le_refl _)) hnb
  have HV := fun w => tick_right now w
  generalize hshT (l.map h3) = a at *
  generalize rightB L = b at *
  generalize timeB now = c at *
  clear h hk hL
  cases a with
  | false =>
    go_enter Try.func28, Try.ntmps28
    go_wp2_with fail
    refine HT.mono ?_
    rintro e w1 ⟨rfl, B1⟩
    go_wp2_with fail
    go_ret
    exact ⟨retB (by rw [HM.out]; simp), B1⟩
  | true =>
    cases b with
    | false =>
      go_enter Try.func28, Try.ntmps28
      go_wp2_with fail
      refine HT.mono ?_
      rintro e w1 ⟨rfl, B1⟩
      go_wp2_with fail
      refine (HU _ B1).mono ?_
      rintro e w2 ⟨rfl, B2⟩
      go_wp2_with fail
      go_ret
      exact ⟨retB (by rw [HM.out]; simp), B1.trans (B2.mono B1.size)⟩
    | true =>
      go_enter Try.func28, Try.ntmps28
      go_wp2_with fail
      refine HT.mono ?_
      rintro e w1 ⟨rfl, B1⟩
      go_wp2_with fail
      refine (HU _ B1).mono ?_
      rintro e w2 ⟨rfl, B2⟩
      go_wp2_with fail
      refine (HV _).mono ?_
      rintro e w3 ⟨rfl, rfl⟩
      go_wp2_with fail
      go_ret
      exact ⟨retB (by rw [HM.out]; simp), B1.trans (B2.mono B1.size)⟩
end Go.Proofs.Ytkckdombcnifnaa
