/-
  Whether matchers match: all of them.
-/
import Derived.Test.YtaiacohnhhicpaaLabK
import Derived.Test.YtaiacohnhhicpaaLabO
import Derived.StillTailTactics
namespace Go.Proofs.Ytaiacohnhhicpaa
open Go.RowKit Go.Shelf
set_option linter.unusedVariables false

/-- whether one that may be matches -/
def mB (l : List L2) (m : M3) : Bool :=
  if m.1 = 0 then l.any (theB m.2.1 m.2.2) else if m.1 = 1 then !l.any (theB m.2.1 m.2.2) else if m.1 = 2 then l.any (beginsB m.2.1 m.2.2) else l.any (namedB m.2.1)
/-- whether all match, or why it can't be told -/
def allF (ms : List M3) (l : List L2) : Bool × Int := if (rightB l && matsB ms) = true then (ms.all (mB l), 0) else (false, 1)
theorem enter_is : ∀ args w, (callFunc 86 args).run Try.prog w = .ok (.enter 86 args) w := enters_of Try.func86 (by kernel_rfl) rfl
theorem enter_isNot : ∀ args w, (callFunc 87 args).run Try.prog w = .ok (.enter 87 args) w := enters_of Try.func87 (by kernel_rfl) rfl
theorem enter_begins : ∀ args w, (callFunc 88 args).run Try.prog w = .ok (.enter 88 args) w := enters_of Try.func88 (by kernel_rfl) rfl
theorem enter_has : ∀ args w, (callFunc 89 args).run Try.prog w = .ok (.enter 89 args) w := enters_of Try.func89 (by kernel_rfl) rfl
/-- the kinds in memory -/
structure Kinds (w : World) (B : Nat) : Prop where
  c0 : w.cell? ⟨B, 0, none⟩ = some fI
  c1 : w.cell? ⟨B, 1, none⟩ = some fN
  c2 : w.cell? ⟨B, 2, none⟩ = some fB
  c3 : w.cell? ⟨B, 3, none⟩ = some fH
theorem Kinds.below {w w' : World} {B : Nat} (h : Kinds w B) {C : Nat} (hB : Below C w w') (hC : B < C) : Kinds w' B :=
  ⟨(hB.cell (p := ⟨B, 0, none⟩) hC).trans h.c0, (hB.cell (p := ⟨B, 1, none⟩) hC).trans h.c1, (hB.cell (p := ⟨B, 2, none⟩) hC).trans h.c2, (hB.cell (p := ⟨B, 3, none⟩) hC).trans h.c3⟩
/-- the function of a kind, and what it tells -/
theorem kind_of (k : Int) (a b : ByteArray) (hk : 0 ≤ k ∧ k ≤ 3) (oa : Option Addr) (n cap : Nat) (l : List L2) (w : World) (h : Ls w oa n cap l) (hn : n ≤ 4611686018427387904) (B : Nat) (hK : Kinds w B) :
    ∃ (j g : Nat), k = (j : Int) ∧ j < 4 ∧ w.cell? ⟨B, j, none⟩ = some (.func (.func g) #[] #[]) ∧ (∀ args w, (callFunc g args).run Try.prog w = .ok (.enter g args) w) ∧ ∀ (r : Bool), mB l (k, a, b) = r → ∀ W, Below w.heap.size w W → Calls Try.prog g #[.agg #[.int .i64 k, .string a, .string b], .slice oa n cap] W fun e w' => e = .returned (.bool r) ∧ Below W.heap.size W w' := by
  rcases (show k = 0 ∨ k = 1 ∨ k = 2 ∨ k = 3 by omega) with rfl | rfl | rfl | rfl
  · exact ⟨0, _, rfl, by omega, hK.c0, enter_is, fun r hr W hW => by subst hr; exact is_any 0 a b oa n cap l W (h.below hW (Nat.le_refl _)) hn⟩
  · exact ⟨1, _, rfl, by omega, hK.c1, enter_isNot, fun r hr W hW => by subst hr; exact isNot_any 1 a b oa n cap l W (h.below hW (Nat.le_refl _)) hn⟩
  · exact ⟨2, _, rfl, by omega, hK.c2, enter_begins, fun r hr W hW => by subst hr; exact begins_any 2 a b oa n cap l W (h.below hW (Nat.le_refl _)) hn⟩
  · exact ⟨3, _, rfl, by omega, hK.c3, enter_has, fun r hr W hW => by subst hr; exact has_any 3 a b oa n cap l W (h.below hW (Nat.le_refl _)) hn⟩
theorem matB_kind {m : M3} (h : matB m = true) : 0 ≤ m.1 ∧ m.1 ≤ 3 := by
  unfold matB at h
  simp only [Bool.and_eq_true, decide_eq_true_eq] at h
  exact ⟨h.1.1.1.1, h.1.1.1.2⟩
theorem matsB_at {ms : List M3} (h : matsB ms = true) (k : Nat) (hk : k < ms.length) : matB (ms.getD k zM) = true := by
  unfold matsB at h
  simp only [Bool.and_eq_true, Bool.not_eq_true', decide_eq_true_eq] at h
  rw [getD_M _ _ hk]
  have := (List.any_eq_false.1 h.2) _ (List.getElem_mem hk)
  simpa using this
theorem all_next (p : M3 → Bool) (l : List M3) (k : Nat) (hk : k < l.length) (h : (l.take k).all p = true) (hs : p (l.getD k zM) = true) : (l.take (k + 1)).all p = true := by
  rw [takeM_next l k hk, List.all_append, h]
  simpa using hs
theorem all_hit (p : M3 → Bool) (l : List M3) (k : Nat) (hk : k < l.length) (hs : p (l.getD k zM) = false) : l.all p = false := by
  rw [getD_M l k hk] at hs
  rw [List.all_eq_false]
  exact ⟨l[k], List.getElem_mem _, by simp [hs]⟩
/-- what All hands back -/
def AllOut (ms : List M3) (l : List L2) (e : Ending) : Prop := e = .returned (.tuple #[.bool (allF ms l).1, .int .i64 (allF ms l).2])
set_option maxRecDepth 100000 in
set_option maxHeartbeats 4000000 in
theorem labAll_any (om : Option Addr) (nm cm : Nat) (ms : List M3) (oa : Option Addr) (n cap : Nat) (l : List L2) (w : World) (hM : Ms w om nm cm ms) (h : Ls w oa n cap l) (hn : n ≤ 4611686018427387904) (hnm : nm ≤ 9223372036854775807) :
    Calls Try.prog 58 #[.slice om nm cm, .slice oa n cap] w fun e w' => AllOut ms l e ∧ Below w.heap.size w w' := by
  have HF : Hid (allF ms l = if (rightB l && matsB ms) = true then (ms.all (mB l), 0) else (false, 1)) := rfl
  have HT := right_any oa n cap l w h hn
  cases hr : rightB l with
  | false =>
    have HF2 : Hid (allF ms l = (false, 1)) := by show _ = _; rw [HF.out, hr]; rfl
    rw [hr] at HT
    clear h hr HF hM
    go_enter Try.func58, Try.ntmps58
    go_wp2_with fail
    refine HT.mono ?_
    rintro e w1 ⟨rfl, B1⟩
    go_wp2_with fail
    go_ret2
    exact ⟨by unfold AllOut; rw [HF2.out]; rfl, B1⟩
  | true =>
    rw [hr] at HT
    have HU := fun w1 (B1 : Below w.heap.size w w1) => mats_any om nm cm ms w1 (hM.below B1 (Nat.le_refl _)) hnm
    cases hb : matsB ms with
    | false =>
      have HF2 : Hid (allF ms l = (false, 1)) := by show _ = _; rw [HF.out, hr, hb]; rfl
      rw [hb] at HU
      clear h hr HF hM hb
      go_enter Try.func58, Try.ntmps58
      go_wp2_with fail
      refine HT.mono ?_
      rintro e w1 ⟨rfl, B1⟩
      go_wp2_with fail
      refine (HU _ B1).mono ?_
      rintro e w2 ⟨rfl, B2⟩
      go_wp2_with fail
      go_ret2
      exact ⟨by unfold AllOut; rw [HF2.out]; rfl, B1.trans (B2.mono B1.size)⟩
    | true =>
      have HF2 : Hid (allF ms l = (ms.all (mB l), 0)) := by show _ = _; rw [HF.out, hr, hb]; rfl
      have HMB := Lib.hid (fun k hk => matB_kind (matsB_at hb k hk))
      rw [hb] at HU
      have HK := fun w => kinds_any w
      clear hr HF hb
      go_enter Try.func58, Try.ntmps58
      go_wp2_with fail
      refine HT.mono ?_
      rintro e w1 ⟨rfl, B1⟩
      go_wp2_with fail
      refine (HU _ B1).mono ?_
      rintro e w2 ⟨rfl, B2⟩
      have B3 := B1.trans (B2.mono B1.size)
      clear B1 B2 HU
      go_wp2_with fail
      refine (HK _).mono ?_
      rintro e w3 ⟨rfl, B4⟩
      have B5 := B3.trans (B4.mono B3.size)
      clear B3 B4 HK
      go_wp2_with fail
      obtain ⟨w4, hw4⟩ : ∃ w4, w4 = w3.alloc (.cells #[fI, fN, fB, fH] 107) := ⟨_, rfl⟩
      have hs4 : w4.heap.size = w3.heap.size + 1 := by subst hw4; simp
      have hK : Kinds w4 w3.heap.size := by subst hw4; exact ⟨by simp, by simp, by simp, by simp⟩
      have B6 : Below w.heap.size w w4 := by subst hw4; exact B5.alloc B5.size _
      rw [← hw4]
      clear hw4
      have hlM := hM.len
      have hrM := hM.room
      generalize w3.heap.size = Bk at *
      go_loopw [8, 20] (fun _ s20 wr => ∃ k : Nat, k ≤ nm ∧ s20 = .int .i64 k ∧ Below w.heap.size w wr ∧ Below w4.heap.size w4 wr ∧ (ms.take k).all (mB l) = true) (fun _ s20 _ => nm - (intOf s20).toNat)
      case atStart => exact ⟨0, Nat.zero_le _, rfl, B6, Below.refl _ _, by simp⟩
      case round =>
        obtain ⟨k, hk, rfl, hB, hB4, hall⟩ := hrel
        have HA := Lib.hid hall
        clear hall
        by_cases hlt : k < nm
        · obtain ⟨g', o, rfl, c0, c1, c2⟩ := (hM.below hB (Nat.le_refl _)).cell k hlt
          have HX := Lib.hid (all_next (mB l) ms k (by omega) HA.out)
          have HN := Lib.hid (all_hit (mB l) ms k (by omega))
          have HMk := HMB.out k (by omega)
          generalize hx : ms.getD k zM = x at *
          obtain ⟨q, s, t⟩ := x
          dsimp only at c0 c1 c2 HMk
          have hB7 := hB.alloc hB.size (.cells #[.int .i64 q, .string s, .string t] 84)
          have hB8 := hB4.alloc hB4.size (.cells #[.int .i64 q, .string s, .string t] 84)
          obtain ⟨j, g, hqj, hj4, hcj, eg, HG⟩ := kind_of q s t HMk oa n cap l _ (h.below hB7 (Nat.le_refl _)) hn Bk (hK.below hB8 (by omega))
          have e0 : (wr.alloc (.cells #[.int .i64 q, .string s, .string t] 84)).cell? ⟨wr.heap.size, 0, none⟩ = some (.int .i64 q) := by simp
          have e1 : (wr.alloc (.cells #[.int .i64 q, .string s, .string t] 84)).cell? ⟨wr.heap.size, 1, none⟩ = some (.string s) := by simp
          have e2 : (wr.alloc (.cells #[.int .i64 q, .string s, .string t] 84)).cell? ⟨wr.heap.size, 2, none⟩ = some (.string t) := by simp
          cases hb : mB l (q, s, t) with
          | false =>
            have HT := HG false hb
            have HY := Lib.hid (HN.out hb)
            have hj5 : (j : Int) < 4 := by omega
            subst hqj
            clear hb HX HN hx hlM hM h HMk HG hK HMB
            go_wp2_with fail
            generalize wr.alloc (.cells #[.int .i64 (j : Int), .string s, .string t] 84) = w7 at *
            refine wp_region_still_tail 6 (by kernel_rfl) (by kernel_rfl) ?_
            simp only [List.take_succ_cons, List.take_zero, List.drop_succ_cons, List.drop_zero]
            change wpStill _ _ (World.drew _) _ _ _
            repeat still_step
            refine wpStill_nil ?_
            change wpList _ _ _ _ _ (World.drew _)
            go_wp2_with fail
            refine (HT _ (Below.refl _ w7).drew).mono ?_
            rintro e w8 ⟨rfl, B8⟩
            go_wp2_with fail
            go_ret2
            exact ⟨by unfold AllOut; rw [HF2.out, HY.out]; rfl, hB7.drew.trans (B8.mono hB7.size)⟩
          | true =>
            have HT := HG true hb
            have HY := Lib.hid (HX.out hb)
            have hj5 : (j : Int) < 4 := by omega
            subst hqj
            clear hb HX HN hx hlM hM h HMk HG hK HMB
            go_wp2_with fail
            generalize wr.alloc (.cells #[.int .i64 (j : Int), .string s, .string t] 84) = w7 at *
            refine wp_region_still_tail 6 (by kernel_rfl) (by kernel_rfl) ?_
            simp only [List.take_succ_cons, List.take_zero, List.drop_succ_cons, List.drop_zero]
            change wpStill _ _ (World.drew _) _ _ _
            repeat still_step
            refine wpStill_nil ?_
            change wpList _ _ _ _ _ (World.drew _)
            go_wp2_with fail
            refine (HT _ (Below.refl _ w7).drew).mono ?_
            rintro e w8 ⟨rfl, B8⟩
            go_wp2_with fail
            go_roundw
            case rel => exact ⟨k + 1, by omega, by go_num, hB7.drew.trans (B8.mono hB7.size), hB8.drew.trans (B8.mono hB8.size), HY.out⟩
            case measure => simp [intOf]; omega
        · obtain rfl : k = nm := by omega
          have HFF : Hid (ms.all (mB l) = true) := by
            have h := HA.out
            rw [List.take_of_length_le (by omega)] at h
            exact h
          clear HA hlM hM h HMB hK
          go_wp2_with fail
          go_ret2
          exact ⟨by unfold AllOut; rw [HF2.out, HFF.out]; rfl, hB⟩
end Go.Proofs.Ytaiacohnhhicpaa
