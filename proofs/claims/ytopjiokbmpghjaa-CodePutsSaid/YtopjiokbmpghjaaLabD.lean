/-
  Labels: whether names rise; which labels may be.
-/
import Derived.Test.YtopjiokbmpghjaaLabC
import Derived.StillTailTactics
namespace Go.Proofs.Ytopjiokbmpghjaa
open Go.RowKit Go.Shelf Go.Lib Go.Sort
set_option linter.unusedVariables false

/-- each name is less than the next one -/
def riseB (l : List L2) : Bool := (List.range (l.length - 1)).all fun i => ltS (l.getD i zL).1 (l.getD (i + 1) zL).1
theorem riseB_iff (l : List L2) : riseB l = true ↔ ∀ i, i + 1 < l.length → ltS (l.getD i zL).1 (l.getD (i + 1) zL).1 = true := by
  unfold riseB
  rw [List.all_eq_true]
  constructor
  · intro h i hi
    exact h i (List.mem_range.2 (by omega))
  · intro h i hi
    exact h i (by have := List.mem_range.1 hi; omega)
theorem riseB_not (l : List L2) (i : Nat) (hi : i + 1 < l.length) (h : ltS (l.getD i zL).1 (l.getD (i + 1) zL).1 = false) : riseB l = false := by
  cases hr : riseB l with
  | false => rfl
  | true => rw [(riseB_iff l).1 hr i hi] at h; cases h
/-- which labels may be -/
def rightB (l : List L2) : Bool := posB l && riseB l

set_option maxRecDepth 100000 in
set_option maxHeartbeats 4000000 in
theorem rise_any (oa : Option Addr) (n cap : Nat) (l : List L2) (w : World) (h : Ls w oa n cap l) (hn : n ≤ 4611686018427387904) :
    Calls Try.prog 47 #[.slice oa n cap] w fun e w' => e = .returned (.bool (riseB l)) ∧ Below w.heap.size w w' := by
  have hl := h.len
  have hr := h.room
  go_enter Try.func47, Try.ntmps47
  go_wp2_with fail
  go_loopw [3] (fun s wr => ∃ j k : Nat, s = .int .i64 (j : Int) ∧ j = k + 1 ∧ k ≤ n ∧ Below w.heap.size w wr ∧ Hid (∀ i, i < k → i + 1 < n → ltS (l.getD i zL).1 (l.getD (i + 1) zL).1 = true)) (fun s _ => n - (intOf s).toNat)
  case atStart => exact ⟨1, 0, rfl, rfl, Nat.zero_le _, Below.refl _ _, fun i hi => absurd hi (by omega)⟩
  case round =>
    obtain ⟨j, k, rfl, hj, hk, hB, HA⟩ := hrel
    by_cases hlt : j < n
    · obtain ⟨g, o, rfl, c0, c1⟩ := (h.below hB (Nat.le_refl _)).cell k (by omega)
      obtain ⟨g', o', e, d0, d1⟩ := (h.below hB (Nat.le_refl _)).cell j (by omega)
      cases e
      have HG := Lib.hid (cmpS_ge (l.getD k zL).1 (l.getD j zL).1)
      have HN : Hid (ltS (l.getD k zL).1 (l.getD j zL).1 = false → riseB l = false) := by rw [hj]; exact riseB_not l k (by omega)
      have HY : Hid (ltS (l.getD k zL).1 (l.getD j zL).1 = true → ∀ i, i < k + 1 → i + 1 < n → ltS (l.getD i zL).1 (l.getD (i + 1) zL).1 = true) := fun q i hi h2 => by
        by_cases e : i = k
        · subst e; rw [← hj]; exact q
        · exact HA.out i (by omega) h2
      have hw1 : IntKind.i64.wrap ((j : Int) - 1) = (k : Int) := by simp [IntKind.wrap, IntKind.bits, IntKind.signed]; omega
      have hk2 : k < n := by omega
      have HJ := Lib.hid hj
      clear hl h HA hj
      generalize (l.getD k zL) = x at *
      generalize (l.getD j zL) = y at *
      obtain ⟨s, t⟩ := x
      obtain ⟨u, v⟩ := y
      have HT := fun W => byName_is (s, t) (u, v) W
      have HC : Hid (cmpN (s, t) (u, v) = cmpS s u) := rfl
      dsimp only [aggL] at HT
      dsimp only at c0 c1 d0 d1 HG HN HY
      go_wp2_with fail
      refine wp_region_still_tail 9 (by kernel_rfl) (by kernel_rfl) ?_
      simp only [List.take_succ_cons, List.take_zero, List.drop_succ_cons, List.drop_zero]
      change wpStill _ _ (World.drew _) _ _ _
      repeat still_step
      refine wpStill_nil ?_
      change wpList _ _ _ _ _ (World.drew _)
      cases hb : ltS s u with
      | false =>
        have hge : 0 ≤ cmpS s u := by rw [hb] at HG; have := HG.out; simpa using this
        have HX := Lib.hid (HN.out hb)
        rw [HC.out] at HT
        generalize cmpS s u = r at *
        clear HG HN HY hb
        go_wp2_with fail
        refine (HT _).mono ?_
        rintro e w1 ⟨rfl, B1⟩
        go_wp2_with fail
        go_ret
        exact ⟨retB HX.out.symm, (hB.drew).trans (B1.mono hB.size)⟩
      | true =>
        have hge : ¬ 0 ≤ cmpS s u := by rw [hb] at HG; have := HG.out; simpa using this
        have HX := Lib.hid (HY.out hb)
        rw [HC.out] at HT
        generalize cmpS s u = r at *
        clear HG HN HY hb
        go_wp2_with fail
        refine (HT _).mono ?_
        rintro e w1 ⟨rfl, B1⟩
        go_wp2_with fail
        go_roundw
        case rel => exact ⟨j + 1, j, by go_num, rfl, by omega, (hB.drew).trans (B1.mono hB.size), by rw [HJ.out]; exact HX⟩
        case measure => have := HJ.out; simp [intOf]; omega
    · have HF : Hid (riseB l = true) := by
        show _ = _
        rw [riseB_iff]
        exact fun i hi => HA.out i (by omega) (by omega)
      clear HA hl h
      go_wp2_with fail
      go_ret
      exact ⟨retB HF.out.symm, hB⟩
set_option maxRecDepth 100000 in
set_option maxHeartbeats 800000 in
theorem right_any (oa : Option Addr) (n cap : Nat) (l : List L2) (w : World) (h : Ls w oa n cap l) (hn : n ≤ 4611686018427387904) :
    Calls Try.prog 24 #[.slice oa n cap] w fun e w' => e = .returned (.bool (rightB l)) ∧ Below w.heap.size w w' := by
  have HR : Hid (rightB l = (posB l && riseB l)) := rfl
  have HT := pos_any oa n cap l w h hn
  have HU := fun w' (hB : Below w.heap.size w w') => rise_any oa n cap l w' (h.below hB (Nat.le_refl _)) hn
  generalize posB l = p at *
  generalize riseB l = q at *
  clear h
  cases p with
  | true =>
    go_enter Try.func24, Try.ntmps24
    go_wp2_with fail
    refine HT.mono ?_
    rintro e w1 ⟨rfl, B1⟩
    go_wp2_with fail
    refine (HU _ B1).mono ?_
    rintro e w2 ⟨rfl, B2⟩
    go_wp2_with fail
    go_ret
    exact ⟨retB (by rw [HR.out]; rfl), B1.trans (B2.mono B1.size)⟩
  | false =>
    go_enter Try.func24, Try.ntmps24
    go_wp2_with fail
    refine HT.mono ?_
    rintro e w1 ⟨rfl, B1⟩
    go_wp2_with fail
    go_ret
    exact ⟨retB (by rw [HR.out]; rfl), B1⟩
theorem belowN {B : Nat} {a w : World} (h : Below B a w) (n : Nat) : Below B a (w.drewN n) := ⟨h.os, h.tape, h.output, h.size, h.block⟩
end Go.Proofs.Ytopjiokbmpghjaa
