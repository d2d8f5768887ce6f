/-
  The kinds of matchers: is, is not, begins, has.
-/
import Derived.Test.YtaiacohnhhicpaaLabE
import Derived.Test.YtaiacohnhhicpaaLabD
import Derived.Lib.Strings
import Derived.Lib.Slices
import Derived.Laws.Strings3
import Derived.Laws.EntriesVeiled
import Derived.Laws.Rows
namespace Go.Proofs.Ytaiacohnhhicpaa
open Go.RowKit Go.Shelf
set_option linter.unusedVariables false

/-- a text is the same as another one -/
def sameS (a b : ByteArray) : Bool := a.toList == b.toList
/-- this label -/
def theB (a b : ByteArray) (x : L2) : Bool := sameS a x.1 && sameS b x.2
/-- a label of this name -/
def namedB (a : ByteArray) (x : L2) : Bool := sameS x.1 a
/-- a label of this name whose value begins so -/
def beginsB (a b : ByteArray) (x : L2) : Bool := sameS x.1 a && Lib.hasPrefix x.2.data.toList b.data.toList

set_option maxRecDepth 100000 in
set_option maxHeartbeats 4000000 in
theorem index_any (a b : ByteArray) (oa : Option Addr) (n cap : Nat) (l : List L2) (w : World) (h : Ls w oa n cap l) (hn : n ≤ 4611686018427387904) :
    Calls Try.prog 105 #[.slice oa n cap, .agg #[.string a, .string b]] w fun e w' => (∃ r : Int, e = .returned (.int .i64 r) ∧ decide (0 ≤ r) = l.any (theB a b)) ∧ Below w.heap.size w w' := by
  have hl := h.len
  have hr := h.room
  have hq : ∀ (s t : ByteArray) (r : Bool), theB a b (s, t) = r → ∀ w, (binOp .eql 61 (.agg #[.string a, .string b]) (.agg #[.string s, .string t])).run Try.prog w = .ok (.bool r) w := fun s t r e w => by subst e; exact eqlL a b s t w
  generalize theB a b = p at *
  have HQ := Lib.hid hq
  clear hq
  go_enter Try.func105, Try.ntmps105
  go_wp2_with fail
  go_loopw [5, 8] (fun _ s8 wr => ∃ k : Nat, k ≤ n ∧ s8 = .int .i64 k ∧ wr.cell? ⟨w.heap.size, 0, none⟩ = some (.string a) ∧ wr.cell? ⟨w.heap.size, 1, none⟩ = some (.string b) ∧ Below w.heap.size w wr ∧ (l.take k).any p = false) (fun _ s8 _ => n - (intOf s8).toNat)
  case atStart => exact ⟨0, Nat.zero_le _, rfl, by simp, by simp, (Below.refl _ w).alloc (Nat.le_refl _) _, by simp⟩
  case round =>
    obtain ⟨k, hk, rfl, b0, b1, hB, hall⟩ := hrel
    have HA := Lib.hid hall
    clear hall
    by_cases hlt : k < n
    · obtain ⟨g', o, rfl, c0, c1⟩ := (h.below hB (Nat.le_refl _)).cell k hlt
      have HX := Lib.hid (any_next p l k (by omega) HA.out)
      have HN := Lib.hid (any_hit p l k (by omega))
      generalize hx : l.getD k zL = x at *
      obtain ⟨s, t⟩ := x
      dsimp only at c0 c1
      cases hb : p (s, t) with
      | false =>
        have hq := HQ.out s t false hb
        have HY := Lib.hid (HX.out hb)
        clear hb HX HN hx hl h HQ
        go_wp2_with fail
        go_quiet (fail)
        go_wp2_with fail
        go_roundw
        case rel => exact ⟨k + 1, by omega, by go_num, by simpa using b0, by simpa using b1, belowN hB _, HY.out⟩
        case measure => simp [intOf]; omega
      | true =>
        have hq := HQ.out s t true hb
        have HY := Lib.hid (HN.out hb)
        clear hb HX HN hx hl h HQ
        go_wp2_with fail
        go_quiet (fail)
        go_wp2_with fail
        go_ret
        exact ⟨⟨_, rfl, by rw [HY.out]; simp⟩, belowN hB _⟩
    · obtain rfl : k = n := by omega
      have HF : Hid (l.any p = false) := by
        have h := HA.out
        rw [List.take_of_length_le (by omega)] at h
        exact h
      clear HA hl h HQ
      go_wp2_with fail
      go_ret
      exact ⟨⟨_, rfl, by rw [HF.out]; simp⟩, hB⟩
set_option maxHeartbeats 800000 in
theorem contains_any (a b : ByteArray) (oa : Option Addr) (n cap : Nat) (l : List L2) (w : World) (h : Ls w oa n cap l) (hn : n ≤ 4611686018427387904) :
    Calls Try.prog 98 #[.slice oa n cap, .agg #[.string a, .string b]] w fun e w' => e = .returned (.bool (l.any (theB a b))) ∧ Below w.heap.size w w' := by
  have hB := fun o => (Below.refl _ w).alloc (Nat.le_refl w.heap.size) o
  have HT := fun o => index_any a b oa n cap l (w.alloc o) (h.below (hB o) (Nat.le_refl _)) hn
  generalize l.any (theB a b) = r at *
  clear h
  go_enter Try.func98, Try.ntmps98
  go_wp2_with fail
  refine (HT _).mono ?_
  rintro e w' ⟨⟨q, rfl, hr⟩, B⟩
  have HR := Lib.hid hr
  clear hr
  go_wp2_with fail
  go_ret
  exact ⟨retB (by first | exact HR.out | simpa using HR.out), (hB _).trans (B.mono (by simp))⟩
set_option maxHeartbeats 800000 in
theorem is_any (k : Int) (a b : ByteArray) (oa : Option Addr) (n cap : Nat) (l : List L2) (w : World) (h : Ls w oa n cap l) (hn : n ≤ 4611686018427387904) :
    Calls Try.prog 86 #[.agg #[.int .i64 k, .string a, .string b], .slice oa n cap] w fun e w' => e = .returned (.bool (l.any (theB a b))) ∧ Below w.heap.size w w' := by
  have hB := fun o => (Below.refl _ w).alloc (Nat.le_refl w.heap.size) o
  have HT := fun o => contains_any a b oa n cap l (w.alloc o) (h.below (hB o) (Nat.le_refl _)) hn
  generalize l.any (theB a b) = r at *
  clear h
  go_enter Try.func86, Try.ntmps86
  go_wp2_with fail
  refine (HT _).mono ?_
  rintro e w' ⟨rfl, B⟩
  go_wp2_with fail
  go_ret
  exact ⟨rfl, (hB _).trans (B.mono (by simp))⟩
set_option maxHeartbeats 800000 in
theorem isNot_any (k : Int) (a b : ByteArray) (oa : Option Addr) (n cap : Nat) (l : List L2) (w : World) (h : Ls w oa n cap l) (hn : n ≤ 4611686018427387904) :
    Calls Try.prog 87 #[.agg #[.int .i64 k, .string a, .string b], .slice oa n cap] w fun e w' => e = .returned (.bool (!l.any (theB a b))) ∧ Below w.heap.size w w' := by
  have hB := fun o => (Below.refl _ w).alloc (Nat.le_refl w.heap.size) o
  have HT := fun o => is_any k a b oa n cap l (w.alloc o) (h.below (hB o) (Nat.le_refl _)) hn
  generalize l.any (theB a b) = r at *
  clear h
  go_enter Try.func87, Try.ntmps87
  go_wp2_with fail
  refine (HT _).mono ?_
  rintro e w' ⟨rfl, B⟩
  go_wp2_with fail
  go_ret
  exact ⟨rfl, (hB _).trans (B.mono (by simp))⟩
set_option maxHeartbeats 800000 in
theorem prefix0_any (s p : ByteArray) (w : World) :
    Calls Try.prog 106 #[.string s, .string p] w fun e w' => e = .returned (.bool (Lib.hasPrefix s.data.toList p.data.toList)) ∧ w' = w := by
  have HR : Hid (Lib.hasPrefix s.data.toList p.data.toList = (decide (p.size ≤ s.size) && ((s.extract 0 p.size).toList == p.toList))) := by
    show _ = _
    rw [← Lib.hasPrefix_of_take, ← Lib.size_eq, ← Lib.size_eq, Lib.extract_toList, Lib.toList_data]
    simp
  generalize Lib.hasPrefix s.data.toList p.data.toList = r at *
  by_cases h : p.size ≤ s.size
  · go_enter Try.func106, Try.ntmps106
    go_wp2
    go_ret
    exact ⟨retB (by rw [HR.out]; simp [h]), rfl⟩
  · go_enter Try.func106, Try.ntmps106
    go_wp2
    go_ret
    exact ⟨retB (by rw [HR.out]; simp [h]), rfl⟩
set_option maxHeartbeats 800000 in
theorem prefix_any (s p : ByteArray) (w : World) :
    Calls Try.prog 100 #[.string s, .string p] w fun e w' => e = .returned (.bool (Lib.hasPrefix s.data.toList p.data.toList)) ∧ w' = w := by
  have HT := fun w => prefix0_any s p w
  generalize Lib.hasPrefix s.data.toList p.data.toList = r at *
  go_enter Try.func100, Try.ntmps100
  go_wp2_with fail
  refine (HT _).mono ?_
  rintro e w' ⟨rfl, rfl⟩
  go_wp2_with fail
  go_ret
  exact ⟨rfl, rfl⟩
set_option maxHeartbeats 1600000 in
theorem begins1_any (B : Nat) (k : Int) (a b : ByteArray) (x : L2) (w : World) (c1 : w.cell? ⟨B, 1, none⟩ = some (.string a)) (c2 : w.cell? ⟨B, 2, none⟩ = some (.string b)) :
    Calls Try.prog 99 #[aggL x, .pointer (some ⟨B, 0, none⟩)] w fun e w' => e = .returned (.bool (beginsB a b x)) ∧ Below w.heap.size w w' := by
  obtain ⟨s, t⟩ := x
  have hB := fun o => (Below.refl _ w).alloc (Nat.le_refl w.heap.size) o
  have hlt : B < w.heap.size := World.block_lt_of_cell? w _ c1
  have HR : Hid (beginsB a b (s, t) = ((s.toList == a.toList) && Lib.hasPrefix t.data.toList b.data.toList)) := rfl
  have HT := fun w => prefix_any t b w
  generalize Lib.hasPrefix t.data.toList b.data.toList = r at *
  dsimp only [aggL]
  have c1' := fun o => ((hB o).cell (p := ⟨B, 1, none⟩) hlt).trans c1
  have c2' := fun o => ((hB o).cell (p := ⟨B, 2, none⟩) hlt).trans c2
  cases h : (s.toList == a.toList) with
  | true =>
    rw [h] at HR
    go_enter Try.func99, Try.ntmps99
    go_wp2_with fail
    refine (HT _).mono ?_
    rintro e w1 ⟨rfl, rfl⟩
    go_wp2_with fail
    go_ret
    exact ⟨retB (by rw [HR.out]; simp), hB _⟩
  | false =>
    rw [h] at HR
    go_enter Try.func99, Try.ntmps99
    go_wp2_with fail
    go_ret
    exact ⟨retB (by rw [HR.out]; simp), hB _⟩
theorem enter_begins1 : ∀ args w, (callFunc 99 args).run Try.prog w = .ok (.enter 99 args) w := enters_of Try.func99 (by kernel_rfl) rfl
theorem enter_has1 : ∀ args w, (callFunc 101 args).run Try.prog w = .ok (.enter 101 args) w := enters_of Try.func101 (by kernel_rfl) rfl
set_option maxHeartbeats 1600000 in
theorem begins_any (k : Int) (a b : ByteArray) (oa : Option Addr) (n cap : Nat) (l : List L2) (w : World) (h : Ls w oa n cap l) (hn : n ≤ 4611686018427387904) :
    Calls Try.prog 88 #[.agg #[.int .i64 k, .string a, .string b], .slice oa n cap] w fun e w' => e = .returned (.bool (l.any (beginsB a b))) ∧ Below w.heap.size w w' := by
  have hB := (Below.refl _ w).alloc (Nat.le_refl w.heap.size) (.cells #[.int .i64 k, .string a, .string b] 84)
  have HT := cont_any 99 #[.pointer (some ⟨w.heap.size, 0, none⟩)] (beginsB a b) oa n cap l (w.alloc (.cells #[.int .i64 k, .string a, .string b] 84)) (h.below hB (Nat.le_refl _)) hn
    (fun x r W hr hW => by
      subst hr
      exact begins1_any w.heap.size k a b x W ((hW.cell (p := ⟨w.heap.size, 1, none⟩) (by simp)).trans (by simp)) ((hW.cell (p := ⟨w.heap.size, 2, none⟩) (by simp)).trans (by simp))) enter_begins1
  generalize l.any (beginsB a b) = r at *
  clear h
  go_enter Try.func88, Try.ntmps88
  go_wp2_with fail
  refine HT.mono ?_
  rintro e w' ⟨rfl, B⟩
  go_wp2_with fail
  go_ret
  exact ⟨rfl, hB.trans (B.mono (by simp))⟩
set_option maxHeartbeats 1600000 in
theorem has1_any (B : Nat) (a : ByteArray) (x : L2) (w : World) (c1 : w.cell? ⟨B, 1, none⟩ = some (.string a)) :
    Calls Try.prog 101 #[aggL x, .pointer (some ⟨B, 0, none⟩)] w fun e w' => e = .returned (.bool (namedB a x)) ∧ Below w.heap.size w w' := by
  obtain ⟨s, t⟩ := x
  have hB := fun o => (Below.refl _ w).alloc (Nat.le_refl w.heap.size) o
  have hlt : B < w.heap.size := World.block_lt_of_cell? w _ c1
  have HR : Hid (namedB a (s, t) = (s.toList == a.toList)) := rfl
  dsimp only [aggL]
  have c1' := fun o => ((hB o).cell (p := ⟨B, 1, none⟩) hlt).trans c1
  go_enter Try.func101, Try.ntmps101
  go_wp2_with fail
  go_ret
  exact ⟨retB HR.out.symm, hB _⟩
set_option maxHeartbeats 1600000 in
theorem has_any (k : Int) (a b : ByteArray) (oa : Option Addr) (n cap : Nat) (l : List L2) (w : World) (h : Ls w oa n cap l) (hn : n ≤ 4611686018427387904) :
    Calls Try.prog 89 #[.agg #[.int .i64 k, .string a, .string b], .slice oa n cap] w fun e w' => e = .returned (.bool (l.any (namedB a))) ∧ Below w.heap.size w w' := by
  have hB := (Below.refl _ w).alloc (Nat.le_refl w.heap.size) (.cells #[.int .i64 k, .string a, .string b] 84)
  have HT := cont_any 101 #[.pointer (some ⟨w.heap.size, 0, none⟩)] (namedB a) oa n cap l (w.alloc (.cells #[.int .i64 k, .string a, .string b] 84)) (h.below hB (Nat.le_refl _)) hn
    (fun x r W hr hW => by
      subst hr
      exact has1_any w.heap.size a x W ((hW.cell (p := ⟨w.heap.size, 1, none⟩) (by simp)).trans (by simp))) enter_has1
  generalize l.any (namedB a) = r at *
  clear h
  go_enter Try.func89, Try.ntmps89
  go_wp2_with fail
  refine HT.mono ?_
  rintro e w' ⟨rfl, B⟩
  go_wp2_with fail
  go_ret
  exact ⟨rfl, hB.trans (B.mono (by simp))⟩
/-- the four kinds, as values -/
abbrev fI : Value := .func (.func 86) #[] #[]
abbrev fN : Value := .func (.func 87) #[] #[]
abbrev fB : Value := .func (.func 88) #[] #[]
abbrev fH : Value := .func (.func 89) #[] #[]
set_option maxHeartbeats 1600000 in
theorem kinds_any (w : World) :
    Calls Try.prog 72 #[] w fun e w' => e = .returned (.agg #[fI, fN, fB, fH]) ∧ Below w.heap.size w w' := by
  have hB := fun o => (Below.refl _ w).alloc (Nat.le_refl w.heap.size) o
  go_enter Try.func72, Try.ntmps72
  go_wp2_with fail
  (try simp only [Exit.inBlock, Exit.then])
  refine bodyPost_ret (results_cell_row rfl _ _ w.heap.size 107 _ (0, 0) _ rfl (heap_alloc_new _ _) Try.underlying107 rfl (by kernel_rfl)) rfl ?_
  exact ⟨rfl, hB _⟩
end Go.Proofs.Ytaiacohnhhicpaa
