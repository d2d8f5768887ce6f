/-
  Labels in memory: a row of pairs of texts that lies at a slice; which labels may be, not yet in order.
-/
import Derived.Test.YtopjiokbmpghjaaLabB
import Derived.BigQuiet
namespace Go.Proofs.Ytopjiokbmpghjaa
open Go.RowKit Go.Shelf
set_option linter.unusedVariables false

/-- a label: its name and its value -/
abbrev L2 := ByteArray × ByteArray
abbrev zL : L2 := (ByteArray.empty, ByteArray.empty)
/-- a label as a value, and as cells -/
abbrev aggL (x : L2) : Value := .agg #[.string x.1, .string x.2]
/-- the labels l lie at a slice of length n -/
structure Ls (w : World) (oa : Option Addr) (n cap : Nat) (l : List L2) : Prop where
  len : l.length = n
  room : n ≤ cap
  cell : ∀ i, i < n → ∃ g o, oa = some ⟨g, o, none⟩ ∧ w.cell? ⟨g, o + i * 2, none⟩ = some (.string (l.getD i zL).1) ∧ w.cell? ⟨g, o + i * 2 + 1, none⟩ = some (.string (l.getD i zL).2)

theorem Ls.below {w w' : World} {oa : Option Addr} {n cap : Nat} {l : List L2} (h : Ls w oa n cap l) {C : Nat} (hB : Below C w w') (hC : w.heap.size ≤ C) : Ls w' oa n cap l := by
  refine ⟨h.len, h.room, fun i hi => ?_⟩
  obtain ⟨g, o, hg, hc, hc'⟩ := h.cell i hi
  have := World.block_lt_of_cell? w _ hc
  exact ⟨g, o, hg, (hB.cell (p := ⟨g, o + i * 2, none⟩) (Nat.lt_of_lt_of_le this hC)).trans hc, (hB.cell (p := ⟨g, o + i * 2 + 1, none⟩) (Nat.lt_of_lt_of_le this hC)).trans hc'⟩
theorem Ls.nil (w : World) (cap : Nat) (oa : Option Addr) : Ls w oa 0 cap [] := ⟨rfl, Nat.zero_le _, fun i hi => absurd hi (by omega)⟩
theorem Ls.take {w : World} {oa : Option Addr} {n cap i : Nat} {l : List L2} (h : Ls w oa n cap l) (hi : i ≤ n) : Ls w oa i cap (l.take i) := by
  refine ⟨by rw [List.length_take, h.len]; omega, by have := h.room; omega, fun j hj => ?_⟩
  obtain ⟨g, o, e, h1, h2⟩ := h.cell j (by omega)
  refine ⟨g, o, e, ?_, ?_⟩
  · rw [h1, List.getD_eq_getElem?_getD, List.getD_eq_getElem?_getD, List.getElem?_take_of_lt hj]
  · rw [h2, List.getD_eq_getElem?_getD, List.getD_eq_getElem?_getD, List.getElem?_take_of_lt hj]
theorem getD_L (l : List L2) (k : Nat) (hk : k < l.length) : l.getD k zL = l[k] := by
  rw [List.getD_eq_getElem?_getD, List.getElem?_eq_getElem hk]; rfl
theorem takeL_next (l : List L2) (k : Nat) (hk : k < l.length) : l.take (k + 1) = l.take k ++ [l.getD k zL] := by
  rw [List.take_succ_eq_append_getElem hk, getD_L l k hk]
theorem any_next (p : L2 → Bool) (l : List L2) (k : Nat) (hk : k < l.length) (h : (l.take k).any p = false) (hs : p (l.getD k zL) = false) : (l.take (k + 1)).any p = false := by
  rw [takeL_next l k hk, List.any_append, h]
  simpa using hs
theorem any_hit (p : L2 → Bool) (l : List L2) (k : Nat) (hk : k < l.length) (hs : p (l.getD k zL) = true) : l.any p = true := by
  rw [getD_L l k hk] at hs
  rw [List.any_eq_true]
  exact ⟨l[k], List.getElem_mem _, hs⟩

/-- no label: a name or a value may not be -/
def noneB (x : L2) : Bool := !nameB x.1 || !valueB x.2
/-- labels may be, once they are in order -/
def posB (l : List L2) : Bool := decide (1 ≤ l.length) && decide (l.length ≤ 3) && !l.any noneB

set_option maxRecDepth 100000 in
set_option maxHeartbeats 1600000 in
theorem none_any (x : L2) (w : World) :
    Calls Try.prog 59 #[aggL x] w fun e w' => e = .returned (.bool (noneB x)) ∧ Below w.heap.size w w' := by
  obtain ⟨s, t⟩ := x
  have HN : Hid (noneB (s, t) = (!nameB s || !valueB t)) := rfl
  have HT := fun w => name_any s w
  have HU := fun w => value_any t w
  have hB := fun o => (Below.refl _ w).alloc (Nat.le_refl w.heap.size) o
  generalize nameB s = a at *
  generalize valueB t = b at *
  dsimp only [aggL]
  cases a with
  | true =>
    go_enter Try.func59, Try.ntmps59
    go_wp2_with fail
    refine (HT _).mono ?_
    rintro e w1 ⟨rfl, B1⟩
    have c1 : w1.cell? ⟨w.heap.size, 1, none⟩ = some (.string t) := (B1.cell (by simp)).trans (by simp)
    go_wp2_with fail
    refine (HU _).mono ?_
    rintro e w2 ⟨rfl, B2⟩
    go_wp2_with fail
    go_ret
    exact ⟨retB (by rw [HN.out]; simp), (hB _).trans ((B1.mono (by simp)).trans (B2.mono (by have := B1.size; simp at this; omega)))⟩
  | false =>
    go_enter Try.func59, Try.ntmps59
    go_wp2_with fail
    refine (HT _).mono ?_
    rintro e w1 ⟨rfl, B1⟩
    go_wp2_with fail
    go_ret
    exact ⟨retB (by rw [HN.out]; simp), (hB _).trans (B1.mono (by simp))⟩

/-- what a function tells of a label: in this world and those above it -/
def TellsL (w : World) (g : Nat) (cb : Array Value) (p : L2 → Bool) : Prop := ∀ (x : L2) (b : Bool) (W : World), b = p x → Below w.heap.size w W → Calls Try.prog g (#[aggL x] ++ cb) W fun e w' => e = .returned (.bool b) ∧ Below W.heap.size W w'
theorem TellsL.up {w w1 : World} {g : Nat} {cb : Array Value} {p : L2 → Bool} (h : TellsL w g cb p) (hB : Below w.heap.size w w1) : TellsL w1 g cb p := fun x b W hb h2 => h x b W hb (hB.trans (h2.mono hB.size))

set_option maxRecDepth 100000 in
set_option maxHeartbeats 1600000 in
/-- the first label of which it is told, or -1 -/
theorem idx_any (g : Nat) (cb : Array Value) (p : L2 → Bool) (oa : Option Addr) (n cap : Nat) (l : List L2) (w : World) (h : Ls w oa n cap l) (hn : n ≤ 4611686018427387904) (hp : TellsL w g cb p) (eg : ∀ args w, (callFunc g args).run Try.prog w = .ok (.enter g args) w) :
    Calls Try.prog 69 #[.slice oa n cap, .func (.func g) #[] cb] w fun e w' => (∃ r : Int, e = .returned (.int .i64 r) ∧ decide (0 ≤ r) = l.any p) ∧ Below w.heap.size w w' := by
  have hl := h.len
  have hr := h.room
  go_enter Try.func69, Try.ntmps69
  go_wp2_with fail
  go_loopw [5, 8] (fun _ s8 wr => ∃ k : Nat, k ≤ n ∧ s8 = .int .i64 k ∧ Below w.heap.size w wr ∧ (l.take k).any p = false) (fun _ s8 _ => n - (intOf s8).toNat)
  case atStart => exact ⟨0, Nat.zero_le _, rfl, Below.refl _ _, by simp⟩
  case round =>
    obtain ⟨k, hk, rfl, hB, hall⟩ := hrel
    have HA := Lib.hid hall
    clear hall
    by_cases hlt : k < n
    · obtain ⟨g', o, rfl, c0, c1⟩ := (h.below hB (Nat.le_refl _)).cell k hlt
      have HX := Lib.hid (any_next p l k (by omega) HA.out)
      have HN := Lib.hid (any_hit p l k (by omega))
      generalize hx : l.getD k zL = x at *
      obtain ⟨a, i⟩ := x
      dsimp only at c0 c1
      cases hb : p (a, i) with
      | false =>
        have HT := fun W => hp (a, i) false W hb.symm
        dsimp only [aggL] at HT
        have HY := Lib.hid (HX.out hb)
        clear hb HX HN hx hl h hp
        go_wp2_with fail
        refine (HT _ hB).mono ?_
        rintro e w' ⟨rfl, B1⟩
        go_wp2_with fail
        go_roundw
        case rel => exact ⟨k + 1, by omega, by go_num, hB.trans (B1.mono hB.size), HY.out⟩
        case measure => simp [intOf]; omega
      | true =>
        have HT := fun W => hp (a, i) true W hb.symm
        dsimp only [aggL] at HT
        have HY := Lib.hid (HN.out hb)
        clear hb HX HN hx hl h hp
        go_wp2_with fail
        refine (HT _ hB).mono ?_
        rintro e w' ⟨rfl, B1⟩
        go_wp2_with fail
        go_ret
        exact ⟨⟨_, rfl, by rw [HY.out]; simp⟩, hB.trans (B1.mono hB.size)⟩
    · obtain rfl : k = n := by omega
      have HF : Hid (l.any p = false) := by
        have h := HA.out
        rw [List.take_of_length_le (by omega)] at h
        exact h
      clear HA hl h hp
      go_wp2_with fail
      go_ret
      exact ⟨⟨_, rfl, by rw [HF.out]; simp⟩, hB⟩
set_option maxRecDepth 100000 in
set_option maxHeartbeats 800000 in
theorem cont_any (g : Nat) (cb : Array Value) (p : L2 → Bool) (oa : Option Addr) (n cap : Nat) (l : List L2) (w : World) (h : Ls w oa n cap l) (hn : n ≤ 4611686018427387904) (hp : TellsL w g cb p) (eg : ∀ args w, (callFunc g args).run Try.prog w = .ok (.enter g args) w) :
    Calls Try.prog 58 #[.slice oa n cap, .func (.func g) #[] cb] w fun e w' => e = .returned (.bool (l.any p)) ∧ Below w.heap.size w w' := by
  have HT := idx_any g cb p oa n cap l w h hn hp eg
  clear h hp eg
  go_enter Try.func58, Try.ntmps58
  go_wp2_with fail
  refine HT.mono ?_
  rintro e w' ⟨⟨r, rfl, hr⟩, B⟩
  have HR := Lib.hid hr
  clear hr
  go_wp2_with fail
  go_ret
  exact ⟨retB (by first | exact HR.out | simpa using HR.out), B⟩
theorem enter_none : ∀ args w, (callFunc 59 args).run Try.prog w = .ok (.enter 59 args) w := enters_of Try.func59 (by kernel_rfl) rfl
theorem tells_none (w : World) : TellsL w 59 #[] noneB := fun x b W hb _ => by subst hb; exact none_any x W
set_option maxRecDepth 100000 in
set_option maxHeartbeats 800000 in
theorem pos_any (oa : Option Addr) (n cap : Nat) (l : List L2) (w : World) (h : Ls w oa n cap l) (hn : n ≤ 4611686018427387904) :
    Calls Try.prog 46 #[.slice oa n cap] w fun e w' => e = .returned (.bool (posB l)) ∧ Below w.heap.size w w' := by
  have hl := h.len
  have HP : Hid (posB l = (decide (1 ≤ n) && decide (n ≤ 3) && !l.any noneB)) := by show _ = _; rw [← hl]; rfl
  by_cases h1 : 1 ≤ n
  · by_cases h3 : n ≤ 3
    · have hc := cont_any _ #[] noneB oa n cap l w h hn (tells_none w) enter_none
      generalize l.any noneB = b at *
      clear h hl
      go_enter Try.func46, Try.ntmps46
      go_wp2_with fail
      refine hc.mono ?_
      rintro e w' ⟨rfl, B⟩
      go_wp2_with fail
      go_ret
      exact ⟨retB (by rw [HP.out]; simp [h1, h3]), B⟩
    · clear h hl
      go_enter Try.func46, Try.ntmps46
      go_wp2_with fail
      go_ret
      exact ⟨retB (by rw [HP.out]; simp [h3]), Below.refl _ _⟩
  · clear h hl
    go_enter Try.func46, Try.ntmps46
    go_wp2_with fail
    go_ret
    exact ⟨retB (by rw [HP.out]; simp [h1]), Below.refl _ _⟩
end Go.Proofs.Ytopjiokbmpghjaa
