/-
  Dues: the document's own answers: which one comes ahead, dues in order.
-/
import Derived.Test.YteomenkojhppfaaDueE
import Derived.StillTailTactics
import Derived.BigQuiet
import Derived.Deep.DeepCutAuto
import Derived.Deep.CutBlock
namespace Go.Proofs.Yteomenkojhppfaa
open Go.RowKit
set_option linter.unusedVariables false

set_option maxHeartbeats 1600000 in
theorem ahead_any (x y : D2) (w : World) :
    Calls Try.prog 18 #[.agg #[.int .i64 x.1, .int .i64 x.2], .agg #[.int .i64 y.1, .int .i64 y.2]] w fun e w' => e = .returned (.bool (aheadB x y)) ∧ Below w.heap.size w w' := by
  obtain ⟨a, i⟩ := x
  obtain ⟨b, j⟩ := y
  have HR : Hid (aheadB (a, i) (b, j) = (decide (a < b) || (decide (a = b) && decide (i < j)))) := rfl
  have HB : Hid (Below w.heap.size w ((w.alloc (.cells #[.int .i64 a, .int .i64 i] 24)).alloc (.cells #[.int .i64 b, .int .i64 j] 24))) := ((Below.refl _ w).alloc (Nat.le_refl _) _).alloc (by simp) _
  dsimp only
  by_cases h1 : a < b
  · go_enter Try.func18, Try.ntmps18
    go_wp2_with fail
    go_ret
    exact ⟨retB (by rw [HR.out]; simp [h1]), HB.out⟩
  · by_cases h2 : a = b
    · subst h2
      by_cases h3 : i < j
      · go_enter Try.func18, Try.ntmps18
        go_wp2_with fail
        go_ret
        exact ⟨retB (by rw [HR.out]; simp [h3]), HB.out⟩
      · go_enter Try.func18, Try.ntmps18
        go_wp2_with fail
        go_ret
        exact ⟨retB (by rw [HR.out]; simp [h3]), HB.out⟩
    · have h2' : (a == b) = false := by simp [h2]
      go_enter Try.func18, Try.ntmps18
      go_wp2_with fail
      go_ret
      exact ⟨retB (by rw [HR.out]; simp [h1, h2]), HB.out⟩
theorem ahead_is (x y : D2) (b : Bool) (w : World) (h : b = aheadB x y) :
    Calls Try.prog 18 #[.agg #[.int .i64 x.1, .int .i64 x.2], .agg #[.int .i64 y.1, .int .i64 y.2]] w fun e w' => e = .returned (.bool b) ∧ Below w.heap.size w w' := by subst h; exact ahead_any x y w

/-- how many stand ahead of it -/
def posD (d : D2) : List D2 → Nat
  | [] => 0
  | x :: l => if aheadB d x then 0 else posD d l + 1
def insD (d : D2) (l : List D2) : List D2 := l.take (posD d l) ++ d :: l.drop (posD d l)
def sortI (l : List D2) : List D2 := l.foldl (fun out d => insD d out) []
theorem posD_le (d : D2) (l : List D2) : posD d l ≤ l.length := by
  induction l with
  | nil => simp [posD]
  | cons x l ih =>
    unfold posD
    split
    · simp
    · simp; omega
theorem posD_hit (d : D2) (l : List D2) : ∀ i, i < l.length → i ≤ posD d l → aheadB d (l.getD i (0, 0)) = true → posD d l = i := by
  induction l with
  | nil => intro i hi; simp at hi
  | cons x l ih =>
    intro i hi h1 h2
    cases i with
    | zero =>
      simp only [List.getD_cons_zero] at h2
      simp [posD, h2]
    | succ i =>
      rw [List.getD_cons_succ] at h2
      unfold posD at h1 ⊢
      by_cases hx : aheadB d x = true
      · simp [hx] at h1
      · rw [if_neg hx] at h1 ⊢
        rw [ih i (by simpa using hi) (by omega) h2]
theorem posD_miss (d : D2) (l : List D2) : ∀ i, i < l.length → i ≤ posD d l → aheadB d (l.getD i (0, 0)) = false → i + 1 ≤ posD d l := by
  induction l with
  | nil => intro i hi; simp at hi
  | cons x l ih =>
    intro i hi h1 h2
    cases i with
    | zero =>
      simp only [List.getD_cons_zero] at h2
      simp [posD, h2]
    | succ i =>
      rw [List.getD_cons_succ] at h2
      unfold posD at h1 ⊢
      by_cases hx : aheadB d x = true
      · simp [hx] at h1
      · rw [if_neg hx] at h1 ⊢
        have := ih i (by simpa using hi) (by omega) h2
        omega
theorem sortI_snoc (l : List D2) (x : D2) : sortI (l ++ [x]) = insD x (sortI l) := by unfold sortI; rw [List.foldl_append]; rfl
theorem insD_length (d : D2) (l : List D2) : (insD d l).length = l.length + 1 := by
  have := posD_le d l
  unfold insD
  simp
  omega
theorem sortI_length (l : List D2) : (sortI l).length = l.length := by
  suffices ∀ (l o : List D2), (l.foldl (fun out d => insD d out) o).length = o.length + l.length by simpa [sortI] using this l []
  intro l
  induction l with
  | nil => intro o; simp
  | cons x l ih => intro o; rw [List.foldl_cons, ih, insD_length]; simp; omega
theorem Ds.take {w : World} {oa : Option Addr} {n cap i : Nat} {l : List D2} (h : Ds w oa n cap l) (hi : i ≤ n) : Ds w oa i cap (l.take i) := by
  refine ⟨by rw [List.length_take, h.len]; omega, by have := h.room; omega, fun j hj => ?_⟩
  obtain ⟨g, o, e, h1, h2⟩ := h.cell j (by omega)
  refine ⟨g, o, e, ?_, ?_⟩
  · rw [h1, List.getD_eq_getElem?_getD, List.getD_eq_getElem?_getD, List.getElem?_take_of_lt hj]
  · rw [h2, List.getD_eq_getElem?_getD, List.getD_eq_getElem?_getD, List.getElem?_take_of_lt hj]
theorem Ds.cut {w : World} {g o n cap i : Nat} {l : List D2} (h : Ds w (some ⟨g, o, none⟩) n cap l) (hi : i ≤ n) : Ds w (if cap = i then some ⟨g, o, none⟩ else some ⟨g, o + i * 2, none⟩) (n - i) (cap - i) (l.drop i) := by
  refine ⟨by rw [List.length_drop, h.len], by have := h.room; omega, fun j hj => ?_⟩
  have hr := h.room
  rw [if_neg (by omega)]
  obtain ⟨g', o', e, h1, h2⟩ := h.cell (i + j) (by omega)
  cases e
  refine ⟨g, o + i * 2, rfl, ?_, ?_⟩
  · rw [show o + i * 2 + j * 2 = o + (i + j) * 2 from by omega, h1, List.getD_eq_getElem?_getD, List.getD_eq_getElem?_getD, List.getElem?_drop]
  · rw [show o + i * 2 + j * 2 + 1 = o + (i + j) * 2 + 1 from by omega, h2, List.getD_eq_getElem?_getD, List.getD_eq_getElem?_getD, List.getElem?_drop]
theorem own_slice {w : World} {base : Nat} {e : TypeId} {size n : Nat} {v : Value} {xs : List Value} (h : w.ownsRow base e size v (n + 1) xs) : ∃ g cap, v = .slice (some ⟨g, 0, none⟩) (n + 1) cap := by
  rcases h.2 with ⟨h1, h2⟩ | ⟨g, cap, cur, h1, _⟩
  · omega
  · exact ⟨g, cap, h1⟩
theorem below_drewND {B : Nat} {a w : World} (h : Below B a w) (q : Nat) : Below B a (w.drewN q) := ⟨h.os, h.tape, h.output, h.size, h.block⟩
theorem below_undrewD {n : Nat} {w w' : World} (h : Below w.drew.heap.size w.drew w') (hn : n ≤ w.heap.size) : Below n w w' :=
  ((Below.refl n w).drew).trans (h.mono hn)
set_option maxRecDepth 100000 in
set_option maxHeartbeats 4000000 in
theorem sorted_any (oa : Option Addr) (n cap : Nat) (l : List D2) (w : World) (h : Ds w oa n cap l) (hn : n ≤ 71) :
    Calls Try.prog 15 #[.slice oa n cap] w fun e w' => (∃ oa' cap', e = .returned (.slice oa' n cap') ∧ Ds w' oa' n cap' (sortI l) ∧ cap' ≤ maxLen ∧ ∀ ad, oa' = some ad → w.heap.size ≤ ad.block ∧ ad.block < w'.heap.size) ∧ Below w.heap.size w w' := by
  have hl := h.len
  obtain ⟨i0, hi, hz0, hz1, hz2⟩ := info_parts infoDue
  have own0 : (w.alloc (.cells #[] 24)).ownsRow w.heap.size 24 2 (.slice (some ⟨w.heap.size, 0, none⟩) 0 0) 0 (cellsD (sortI [])) := World.ownsRow_made w #[] 0 (Nat.le_refl _) (Nat.zero_le _) (by simp)
  have B0 : Below w.heap.size w (w.alloc (.cells #[] 24)) := (Below.refl _ w).alloc (Nat.le_refl _) _
  go_enter Try.func15, Try.ntmps15
  go_wp2_with fail
  generalize w.alloc (.cells #[] 24) = w1 at *
  go_loopw [3, 5, 6, 7, 11] (fun s3 _ _ _ s11 wr => ∃ (k g cap3 : Nat), k ≤ n ∧ s11 = .int .i64 k ∧ s3 = .slice (some ⟨g, 0, none⟩) k cap3 ∧ wr.ownsRow w.heap.size 24 2 (.slice (some ⟨g, 0, none⟩) k cap3) k (cellsD (sortI (l.take k))) ∧ Below w.heap.size w wr) (fun _ _ _ _ s11 _ => n - (intOf s11).toNat)
  case atStart => exact ⟨0, _, _, Nat.zero_le _, rfl, rfl, own0, B0⟩
  case round =>
    obtain ⟨k, g, cap3, hk, rfl, rfl, hown, hB⟩ := hrel
    by_cases hlt : k < n
    · have hr := h.room
      obtain ⟨g0, o0, e0, c0, c1⟩ := (h.below hB (Nat.le_refl _)).cell k hlt
      have HA := Lib.hid (takeD_next l k (by omega))
      have HS := Lib.hid (sortI_snoc (l.take k) (l.getD k (0, 0)))
      rw [← HA.out] at HS
      generalize l.getD k (0, 0) = x at *
      have HT := Lib.hid (show (sortI (l.take k)).length = k by rw [sortI_length, List.length_take]; omega)
      generalize sortI (l.take k) = out at *
      obtain ⟨oo, co, eo, hDo, hmo⟩ := Ds.of_own HT.out hown
      cases eo
      obtain ⟨a, i⟩ := x
      dsimp only at c0 c1
      have hx0 : (wr.alloc (.cells #[.int .i64 a, .int .i64 i] 24)).cell? ⟨wr.heap.size, 0, none⟩ = some (.int .i64 a) := by simp
      have hx1 : (wr.alloc (.cells #[.int .i64 a, .int .i64 i] 24)).cell? ⟨wr.heap.size, 1, none⟩ = some (.int .i64 i) := by simp
      have B1 : Below wr.heap.size wr (wr.alloc (.cells #[.int .i64 a, .int .i64 i] 24)) := (Below.refl _ _).alloc (Nat.le_refl _) _
      have hsa : (wr.alloc (.cells #[.int .i64 a, .int .i64 i] 24)).heap.size = wr.heap.size + 1 := by simp
      have hDa := hDo.below B1 (Nat.le_refl _)
      have howna := hown.alloc (.cells #[.int .i64 a, .int .i64 i] 24)
      have hBa := hB.trans (B1.mono hB.size)
      subst e0
      generalize hP : posD (a, i) out = P at *
      have HP := Lib.hid hP
      have hPk : P ≤ k := by rw [← hP, ← HT.out]; exact posD_le _ _
      clear hP
      go_upto_block 2 with fail
      generalize wr.alloc (.cells #[.int .i64 a, .int .i64 i] 24) = wa at *
      have hsB := hB.size
      clear hown own0 B0 c0 c1 h hDo hB B1
      generalize wr.heap.size = Bd at *
      clear wr
      go_cut [6] (fun s6 wx => s6 = .int .i64 P ∧ Below wa.heap.size wa wx)
      case first =>
        go_wp2_with fail
        go_loopw [6] (fun s6 wx => ∃ j : Nat, j ≤ P ∧ s6 = .int .i64 j ∧ Below wa.heap.size wa wx) (fun s6 _ => P + 1 - (intOf s6).toNat)
        case atStart => exact ⟨0, Nat.zero_le _, rfl, Below.refl _ _⟩
        case round =>
          clear howna hBa
          obtain ⟨j, hj, rfl, hBx⟩ := hrel
          have q0 := (hBx.cell (p := ⟨Bd, 0, none⟩) (show Bd < _ by omega)).trans hx0
          have q1 := (hBx.cell (p := ⟨Bd, 1, none⟩) (show Bd < _ by omega)).trans hx1
          have hDx := hDa.below hBx (Nat.le_refl _)
          have hcap := hDx.room
          clear hx0 hx1 hDa
          by_cases hjk : j < k
          · obtain ⟨g', o', e', k0, k1⟩ := hDx.cell j hjk
            cases e'
            rw [Nat.zero_add] at k0 k1
            have HH := Lib.hid (posD_hit (a, i) out j (by rw [HT.out]; exact hjk) (by rw [HP.out]; exact hj))
            have HM := Lib.hid (posD_miss (a, i) out j (by rw [HT.out]; exact hjk) (by rw [HP.out]; exact hj))
            rw [HP.out] at HH HM
            generalize out.getD j (0, 0) = y at *
            cases hb : aheadB (a, i) y with
            | true =>
              have HE := Lib.hid (HH.out hb)
              have HC := fun W => ahead_is (a, i) y true W hb.symm
              obtain ⟨b, jj⟩ := y
              dsimp only at k0 k1 HC
              clear HH HM hb hDx
              go_wp2_with fail
              refine wp_region_still_tail 10 (by kernel_rfl) (by kernel_rfl) ?_
              simp only [List.take_succ_cons, List.take_zero, List.drop_succ_cons, List.drop_zero]
              change wpStill _ _ (World.drew _) _ _ _
              still_step
              still_step
              still_step
              still_step
              still_step
              still_step
              still_step
              still_step
              still_step
              still_step
              refine wpStill_nil ?_
              change wpList _ _ _ _ _ (World.drew _)
              go_wp2_with fail
              refine (HC _).mono ?_
              rintro e wy ⟨rfl, hBy⟩
              have hBz := hBx.trans (below_undrewD hBy hBx.size)
              clear HC hBy hBx q0 q1 k0 k1
              go_wp2_with fail
              go_meet
              case rel => exact ⟨by rw [HE.out], hBz⟩
            | false =>
              have HE := Lib.hid (HM.out hb)
              have HC := fun W => ahead_is (a, i) y false W hb.symm
              obtain ⟨b, jj⟩ := y
              dsimp only at k0 k1 HC
              clear HH HM hb hDx
              go_wp2_with fail
              refine wp_region_still_tail 10 (by kernel_rfl) (by kernel_rfl) ?_
              simp only [List.take_succ_cons, List.take_zero, List.drop_succ_cons, List.drop_zero]
              change wpStill _ _ (World.drew _) _ _ _
              still_step
              still_step
              still_step
              still_step
              still_step
              still_step
              still_step
              still_step
              still_step
              still_step
              refine wpStill_nil ?_
              change wpList _ _ _ _ _ (World.drew _)
              go_wp2_with fail
              refine (HC _).mono ?_
              rintro e wy ⟨rfl, hBy⟩
              have hBz := hBx.trans (below_undrewD hBy hBx.size)
              clear HC hBy hBx q0 q1 k0 k1
              go_wp2_with fail
              go_roundw
              case rel => exact ⟨j + 1, HE.out, by go_num, hBz⟩
              case measure => have := HE.out; simp [intOf]; omega
          · obtain rfl : j = k := by omega
            obtain rfl : P = j := by omega
            have hdk : decide ((P : Int) < (P : Int)) = false := by simp
            go_wp2_with fail
            go_quiet (fail)
            go_wp2_with fail
            go_meet
            case rel => exact ⟨rfl, below_drewND hBx _⟩
      case rest =>
        obtain ⟨rfl, hBx⟩ := hcut
        generalize wc = wx at *
        have q0 := (hBx.cell (p := ⟨Bd, 0, none⟩) (show Bd < _ by omega)).trans hx0
        have q1 := (hBx.cell (p := ⟨Bd, 1, none⟩) (show Bd < _ by omega)).trans hx1
        have hDx := hDa.below hBx (Nat.le_refl _)
        have hBw := hBa.trans (hBx.mono hBa.size)
        have hcap := hDx.room
        have zx := hBw.size
        have zBd : Bd < wx.heap.size := by have := hBx.size; omega
        have made := World.ownsRow_made (e := 24) (size := 2) wx #[] 0 (Nat.le_refl _) (Nat.zero_le _) (by simp)
        have BC : Below wx.heap.size wx (wx.alloc (.cells #[] 24)) := (Below.refl _ _).alloc (Nat.le_refl _) _
        have zC : (wx.alloc (.cells #[] 24)).heap.size = wx.heap.size + 1 := by simp
        have hDC := (hDx.below BC (Nat.le_refl _)).take hPk
        clear hx0 hx1 hDa howna hBa hBx hi hz0 hz1 hz2
        go_wp2_with (first
          | (at_builtin; refine wpList_append_ds _ rfl (.tmp 31) (.tmp 34) rfl wx.heap.size rfl made rfl hDC (by omega) (by omega) ?_; intro v1 w1 own1 hg1; change (wx.alloc (.cells #[] 24)).grownBy w1 (some wx.heap.size) at hg1; have B1 : Below wx.heap.size wx w1 := BC.grown hg1 (by omega) (fun k e => by cases e; exact Nat.le_refl _); have z1 := B1.size; have r0 := (B1.cell (p := ⟨Bd, 0, none⟩) zBd).trans q0; have r1 := (B1.cell (p := ⟨Bd, 1, none⟩) zBd).trans q1)
          | (at_builtin; refine wpList_append_ds _ rfl (.tmp 36) (.tmp 38) rfl wx.heap.size rfl (own1.alloc _) rfl (Ds.one w1 (a, i)) (by omega) (by simp; omega) ?_; intro v2 w2 own2 hg2; change (w1.alloc (.cells #[.int .i64 a, .int .i64 i] 24)).grownBy w2 v1.ownBlock at hg2; have B2 : Below wx.heap.size wx w2 := (B1.alloc z1 _).grown hg2 (by simp; omega) (fun k e => (own1.lt k e).1); have z2 := B2.size; have hDr := (hDx.below B2 (Nat.le_refl _)).cut hPk; rw [Nat.zero_add] at hDr)
          | (at_builtin; refine wpList_append_ds _ rfl (.tmp 40) (.tmp 43) rfl wx.heap.size rfl own2 rfl hDr (by omega) (by omega) ?_; intro v3 w3 own3 hg3; change w2.grownBy w3 v2.ownBlock at hg3; have B3 : Below wx.heap.size wx w3 := B2.grown hg3 z2 (fun k e => (own2.lt k e).1)))
        rw [show 0 + P + 1 + (k - P) = k + 1 from by omega, List.nil_append, ← cellsD_append, ← cellsD_append, show out.take P ++ [(a, i)] ++ out.drop P = insD (a, i) out from by unfold insD; rw [HP.out]; simp, ← HS.out] at own3
        obtain ⟨g3, c3, rfl⟩ := own_slice own3
        exact ⟨⟨k + 1, g3, c3, by omega, by go_num, rfl, own_base own3 zx, hBw.trans (B3.mono zx)⟩, by simp [intOf]; omega⟩
    · obtain rfl : k = n := by omega
      rw [List.take_of_length_le (by omega)] at hown
      obtain ⟨oa', cap', e, hD, hm⟩ := Ds.of_own (by rw [sortI_length]; exact hl) hown
      cases e
      go_wp2_with fail
      go_ret
      exact ⟨⟨_, _, rfl, hD, hm, fun ad e => by cases e; exact hown.lt g rfl⟩, hB⟩
end Go.Proofs.Yteomenkojhppfaa
