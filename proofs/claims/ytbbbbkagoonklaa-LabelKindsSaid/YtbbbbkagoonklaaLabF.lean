/-
  The law's own: labels and matchers, a few of each, their texts short.
-/
import Derived.Test.YtbbbbkagoonklaaLabG
import Derived.StillTailTactics
import Derived.Deep.RegionHeld3
namespace Go.Proofs.Ytbbbbkagoonklaa
open Go.RowKit Go.Shelf
set_option linter.unusedVariables false

theorem step_append_ls (w : World) {ops : Array Oper} {o : Oper} {a : Act} {K : Act → World → Prop} {Q : Exit → Act → World → Prop} {E : Prop} (hw : Region.wanted o (yielded ops a.tmps) = true) (s x : Operand)
    (ho : o.op = .call { callee := .builtin .append, args := #[s, x], argTypes := #[22, 22] }) (base : Nat) {v : Value} {n : Nat} {xs : List Value} (hs : a.eval s = v)
    (hown : w.ownsRow base 41 2 v n xs) {ox : Option Addr} {m c : Nat} {ds : List L2} (hx : a.eval x = .slice ox m c) (hD : Ls w ox m c ds) (hn : n + m ≤ 1000) (hbase : base ≤ w.heap.size)
    (h : ∀ v' w', w'.ownsRow base 41 2 v' (n + m) (xs ++ cellsL ds) → w.grownBy w' v.ownBlock → K (a.put o.dst v') w') : if Region.wanted o (yielded ops a.tmps) = true then Oper.wp Try.prog o a w K Q else E := by
  rw [if_pos hw]
  exact wp_append_ls w s x ho base hs hown hx hD hn hbase h
theorem own_drewL {w : World} {base : Nat} {e : TypeId} {z : Nat} {v : Value} {n : Nat} {xs : List Value} (h : w.ownsRow base e z v n xs) : w.drew.ownsRow base e z v n xs := h
/-- a text's first twelve bytes -/
def cutS (s : ByteArray) : ByteArray := s.extract 0 (min s.size 12)
theorem cutS_size (s : ByteArray) : (cutS s).size ≤ 12 := by unfold cutS; simp; omega
def cutL (x : L2) : L2 := (cutS x.1, cutS x.2)
def cutM (x : M3) : M3 := (x.1, cutS x.2.1, cutS x.2.2)
def fewL (l : List L2) : List L2 := (l.take (min l.length 6)).map cutL
def fewM (l : List M3) : List M3 := (l.take (min l.length 6)).map cutM
theorem fewL_length (l : List L2) : (fewL l).length = min l.length 6 := by unfold fewL; simp
theorem fewM_length (l : List M3) : (fewM l).length = min l.length 6 := by unfold fewM; simp
theorem fewL_short (l : List L2) : ShortL (fewL l) := by
  intro k hk
  rw [getD_L _ _ hk]
  simp only [fewL, List.getElem_map]
  exact ⟨cutS_size _, cutS_size _⟩
theorem fewM_short (l : List M3) : ShortM (fewM l) := by
  intro k hk
  rw [getD_M _ _ hk]
  simp only [fewM, List.getElem_map]
  exact ⟨cutS_size _, cutS_size _⟩
theorem min_of (n k : Nat) : ∃ m : Nat, m = min n k ∧ min (n : Int) (k : Int) = (m : Int) ∧ m ≤ n ∧ m ≤ k := ⟨min n k, rfl, by omega, Nat.min_le_left _ _, Nat.min_le_right _ _⟩
theorem fewL_take (l : List L2) (k : Nat) (hk : k < l.length) : (l.take (k + 1)).map cutL = (l.take k).map cutL ++ [cutL (l.getD k zL)] := by rw [takeL_next l k hk, List.map_append]; rfl
theorem fewM_take (l : List M3) (k : Nat) (hk : k < l.length) : (l.take (k + 1)).map cutM = (l.take k).map cutM ++ [cutM (l.getD k zM)] := by rw [takeM_next l k hk, List.map_append]; rfl
set_option maxRecDepth 100000 in
set_option maxHeartbeats 4000000 in
theorem few_new (oa : Option Addr) (n cap : Nat) (l : List L2) (w : World) (h : Ls w oa n cap l) (hc : cap ≤ maxLen) :
    Calls Try.prog 6 #[.slice oa n cap] w fun e w' => (∃ oa' cap', e = .returned (.slice oa' (min n 6) cap') ∧ Ls w' oa' (min n 6) cap' (fewL l) ∧ ∀ g o, oa' = some ⟨g, o, none⟩ → w.heap.size ≤ g) ∧ Below w.heap.size w w' := by
  have hl := h.len
  have hr := h.room
  have hn : n ≤ 9223372036854775807 := by unfold maxLen at hc; omega
  obtain ⟨m, hmm, hm, hmn, hm6⟩ := min_of n 6
  have HM := Lib.hid hmm
  have HF : Hid (fewL l = (l.take m).map cutL) := by show _ = _; unfold fewL; rw [hl, hmm]
  rw [← hmm]
  clear hmm
  change min (n : Int) 6 = (m : Int) at hm
  have own0 : w.ownsRow w.heap.size 41 2 (.slice none 0 0) 0 (cellsL ([] : List L2)) := World.ownsRow_nil _ _ _ _
  go_enter Try.func6, Try.ntmps6
  go_wp2_with fail
  clear hm
  go_loopw [3, 5, 12] (fun s3 _ s12 wr => ∃ k : Nat, k ≤ m ∧ s12 = .int .i64 k ∧ wr.ownsRow w.heap.size 41 2 s3 k (cellsL ((l.take k).map cutL)) ∧ Below w.heap.size w wr) (fun _ _ s12 _ => m - (intOf s12).toNat)
  case atStart => exact ⟨0, Nat.zero_le _, rfl, by simpa using own0, Below.refl _ _⟩
  case round =>
    obtain ⟨k, hk, rfl, hown, hB⟩ := hrel
    by_cases hlt : k < m
    · obtain ⟨g, o, rfl, c0, c1⟩ := (h.below hB (Nat.le_refl _)).cell k (by omega)
      have HX := Lib.hid (fewL_take l k (by omega))
      have hkn : k < n := by omega
      generalize l.getD k zL = x at *
      obtain ⟨s, t⟩ := x
      dsimp only at c0 c1
      have HC : Hid (cutL (s, t) = (s.extract 0 (min s.size 12), t.extract 0 (min t.size 12))) := rfl
      obtain ⟨a, ha, ha1, ha2, ha3⟩ := min_of s.size 12
      obtain ⟨b, hb, hb1, hb2, hb3⟩ := min_of t.size 12
      rw [← ha, ← hb] at HC
      change min (s.size : Int) 12 = (a : Int) at ha1
      change min (t.size : Int) 12 = (b : Int) at hb1
      have hB7 := hB.alloc hB.size (.cells #[.string s, .string t] 41)
      have howna := hown.alloc (.cells #[.string s, .string t] 41)
      have e0 : (wr.alloc (.cells #[.string s, .string t] 41)).cell? ⟨wr.heap.size, 0, none⟩ = some (.string s) := by simp
      have e1 : (wr.alloc (.cells #[.string s, .string t] 41)).cell? ⟨wr.heap.size, 1, none⟩ = some (.string t) := by simp
      have hs7 : (wr.alloc (.cells #[.string s, .string t] 41)).heap.size = wr.heap.size + 1 := by simp
      clear h hl HF ha hb own0
      go_wp2_with fail
      generalize wr.alloc (.cells #[.string s, .string t] 41) = w7 at *
      have hsz8 : w.heap.size ≤ (w7.drew.alloc (.cells #[.string (s.extract 0 a), .string (t.extract 0 b)] 41)).heap.size := by have := hB7.size; simp; omega
      have hone := Ls.one w7.drew (s.extract 0 a, t.extract 0 b)
      rw [show w7.drew.heap.size = wr.heap.size + 1 from hs7] at hone
      have hkeep : ∀ w1, (w7.drew.alloc (.cells #[.string (s.extract 0 a), .string (t.extract 0 b)] 41)).grownBy w1 u3.ownBlock → w1.cell? ⟨wr.heap.size, 0, none⟩ = some (.string s) ∧ w1.cell? ⟨wr.heap.size, 1, none⟩ = some (.string t) := fun w1 hg => by
        have hlt := hown.lt
        have hne : some wr.heap.size ≠ u3.ownBlock := fun e => by have := hlt _ e.symm; omega
        have hb1 := hg.cell_far (a := ⟨wr.heap.size, 0, none⟩) (by simp; omega) hne
        have hb2 := hg.cell_far (a := ⟨wr.heap.size, 1, none⟩) (by simp; omega) hne
        have B := (Below.refl w7.drew.heap.size w7.drew).alloc (Nat.le_refl _) (.cells #[.string (s.extract 0 a), .string (t.extract 0 b)] 41)
        rw [hb1, hb2]
        exact ⟨(B.cell (p := ⟨wr.heap.size, 0, none⟩) (by show _ < w7.heap.size; dsimp only; omega)).trans e0, (B.cell (p := ⟨wr.heap.size, 1, none⟩) (by show _ < w7.heap.size; dsimp only; omega)).trans e1⟩
      have HK := Lib.hid hkeep
      clear hkeep
      generalize wr.heap.size = Bx at *
      go_region_held3 (fun w' => w'.cell? ⟨Bx, 0, none⟩ = some (.string s) ∧ w'.cell? ⟨Bx, 1, none⟩ = some (.string t)) (first | exact HK.out _ hg1 | go_keep) (first | (refine step_append_ls _ (by rfl) (.tmp 16) (.tmp 32) (by rfl) w.heap.size (by rfl) ((own_drewL howna).alloc _) (by rfl) hone (by omega) hsz8 ?_; intro v1 w1 own1 hg1))
      all_goals
        have B8 : Below w.heap.size w w1 := (hB7.drew.alloc hB7.drew.size (.cells #[.string (s.extract 0 a), .string (t.extract 0 b)] 41)).grown hg1 hsz8 (fun r e => (hown.lt r e).1)
        have own2 := own1
        rw [← cellsL_append, ← HC.out, ← HX.out] at own2
        clear own1 hg1 hone hkn c0 c1 e0 e1 howna hown
        go_wp2_with fail
        go_roundw
        case rel => exact ⟨k + 1, by omega, by go_num, own2, B8⟩
        case measure => simp [intOf]; omega
    · obtain rfl : k = m := by omega
      obtain ⟨oa', cap', rfl, hD, hm'⟩ := Ls.of_own (by rw [List.length_map, List.length_take]; omega) hown
      have HN : Hid (∀ g o, oa' = some ⟨g, o, none⟩ → w.heap.size ≤ g) := fun g o e => (hown.lt g (by rw [e]; rfl)).1
      clear h hl hown own0
      go_wp2_with fail
      go_ret
      exact ⟨⟨_, _, rfl, by rw [HF.out]; exact hD, HN.out⟩, hB⟩
theorem few_any (oa : Option Addr) (n cap : Nat) (l : List L2) (w : World) (h : Ls w oa n cap l) (hc : cap ≤ maxLen) :
    Calls Try.prog 6 #[.slice oa n cap] w fun e w' => (∃ oa' cap', e = .returned (.slice oa' (min n 6) cap') ∧ Ls w' oa' (min n 6) cap' (fewL l)) ∧ Below w.heap.size w w' := by
  refine (few_new oa n cap l w h hc).mono ?_
  rintro e w' ⟨⟨oa', cap', he, hL, _⟩, B⟩
  exact ⟨⟨oa', cap', he, hL⟩, B⟩
end Go.Proofs.Ytbbbbkagoonklaa
