/-
  The law's walk: of one name and value just one of is and is not matches; what is it begins with it, and what begins with it has it; more matchers match less.
-/
import Derived.Test.YtbbbbkagoonklaaLabP
import Derived.BigQuiet
import Derived.StillTailTactics
import Derived.Deep.RegionHeld3
namespace Go.Proofs.Ytbbbbkagoonklaa.labelKinds
open Go.RowKit Go.Shelf
set_option linter.unusedVariables false

theorem keepL {w w' : World} {a : Addr} {v : Value} (hB : Below w.heap.size w w') (h : w.cell? a = some v) : w'.cell? a = some v := (hB.cell (World.block_lt_of_cell? _ _ h)).trans h
theorem setL {w : World} {oa : Option Addr} {n cap : Nat} {l : List L2} (h : Ls w oa n cap l) {B : Nat} (hne : ∀ g o, oa = some ⟨g, o, none⟩ → B ≠ g) (v : Value) : Ls (w.setCell ⟨B, 0, none⟩ v) oa n cap l := by
  refine ⟨h.len, h.room, fun i hi => ?_⟩
  obtain ⟨g, o, e, h1, h2⟩ := h.cell i hi
  have := hne g o e
  refine ⟨g, o, e, ?_, ?_⟩
  · rw [World.cell?_setCell_other _ _ _ _ (fun e => this (congrArg Addr.block e))]; exact h1
  · rw [World.cell?_setCell_other _ _ _ _ (fun e => this (congrArg Addr.block e))]; exact h2
theorem setM {w : World} {oa : Option Addr} {n cap : Nat} {l : List M3} (h : Ms w oa n cap l) {B : Nat} (hne : ∀ g o, oa = some ⟨g, o, none⟩ → B ≠ g) (v : Value) : Ms (w.setCell ⟨B, 0, none⟩ v) oa n cap l := by
  refine ⟨h.len, h.room, fun i hi => ?_⟩
  obtain ⟨g, o, e, h1, h2, h3⟩ := h.cell i hi
  have := hne g o e
  refine ⟨g, o, e, ?_, ?_, ?_⟩
  · rw [World.cell?_setCell_other _ _ _ _ (fun e => this (congrArg Addr.block e))]; exact h1
  · rw [World.cell?_setCell_other _ _ _ _ (fun e => this (congrArg Addr.block e))]; exact h2
  · rw [World.cell?_setCell_other _ _ _ _ (fun e => this (congrArg Addr.block e))]; exact h3

/-- what All says of one matcher -/
theorem all_one (m : M3) (S : List L2) : allF [m] S = if (rightB S && matB m) = true then (mB S m, 0) else (false, 1) := by
  unfold allF matsB
  simp
theorem all_ok {ms : List M3} {S : List L2} {b : Bool} (h : allF ms S = (b, 0)) : rightB S = true ∧ matsB ms = true ∧ b = ms.all (mB S) := by
  unfold allF at h
  split at h
  · rename_i hc
    simp only [Bool.and_eq_true] at hc
    injection h with e _
    exact ⟨hc.1, hc.2, e.symm⟩
  · injection h with _ e
    exact absurd e (by omega)
theorem all_two (ms : List M3) (S : List L2) : ∃ b q, allF ms S = (b, q) ∧ (q = 0 ∨ (q == 0) = false ∧ b = false) := by
  unfold allF
  split
  · exact ⟨_, _, rfl, .inl rfl⟩
  · exact ⟨_, _, rfl, .inr ⟨rfl, rfl⟩⟩
/-- one of them alone, and those ahead of it -/
theorem all_at {ms : List M3} {S : List L2} {b : Bool} (h : allF ms S = (b, 0)) (k : Nat) (hk : k < ms.length) : allF [ms.getD k zM] S = (mB S (ms.getD k zM), 0) ∧ allF (ms.take k) S = ((ms.take k).all (mB S), 0) ∧ (ms.take (k + 1)).all (mB S) = ((ms.take k).all (mB S) && mB S (ms.getD k zM)) := by
  obtain ⟨hr, hm, rfl⟩ := all_ok h
  refine ⟨?_, ?_, ?_⟩
  · rw [all_one, hr, matsB_at hm k hk]
    rfl
  · unfold allF
    have : matsB (ms.take k) = true := by
      unfold matsB at hm ⊢
      simp only [Bool.and_eq_true, Bool.not_eq_true', decide_eq_true_eq] at hm ⊢
      refine ⟨by rw [List.length_take]; omega, ?_⟩
      rw [List.any_eq_false]
      intro x hx
      exact List.any_eq_false.1 hm.2 x (List.mem_of_mem_take hx)
    rw [hr, this]
    rfl
  · rw [takeM_next ms k hk, List.all_append]
    simp
theorem begins_of {a b : ByteArray} {x : L2} (h : theB a b x = true) : beginsB a b x = true := by
  unfold theB at h
  simp only [Bool.and_eq_true] at h
  have e1 := (sameS_iff _ _).1 h.1
  have e2 := (sameS_iff _ _).1 h.2
  unfold beginsB
  simp only [Bool.and_eq_true]
  refine ⟨(sameS_iff _ _).2 e1.symm, ?_⟩
  rw [prefix_is, ← e2]
  simp
theorem has_of {a b : ByteArray} {x : L2} (h : beginsB a b x = true) : namedB a x = true := by
  unfold beginsB at h
  simp only [Bool.and_eq_true] at h
  unfold namedB
  exact h.1
theorem any_of {p q : L2 → Bool} {l : List L2} (hpq : ∀ x, p x = true → q x = true) (h : l.any p = true) : l.any q = true := by
  obtain ⟨x, hx, h2⟩ := List.any_eq_true.1 h
  exact List.any_eq_true.2 ⟨x, hx, hpq x h2⟩
/-- the four kinds of one name and value -/
theorem kinds_facts (S : List L2) (a b : ByteArray) : ∃ (b0 b1 b2 b3 : Bool) (q q3 : Int), allF [(0, a, b)] S = (b0, q) ∧ allF [(1, a, b)] S = (b1, q) ∧ allF [(2, a, b)] S = (b2, q) ∧ allF [(3, a, ⟨#[]⟩)] S = (b3, q3) ∧
    ((q = 0 ∧ q3 = 0 ∧ ((b0 = true ∧ b1 = false ∧ b2 = true ∧ b3 = true) ∨ (b0 = false ∧ b1 = true ∧ b2 = true ∧ b3 = true) ∨ (b0 = false ∧ b1 = true ∧ b2 = false))) ∨
     (q = 1 ∧ b0 = false ∧ b1 = false ∧ b2 = false ∧ (q3 = 0 ∨ (q3 = 1 ∧ b3 = false)))) := by
  rw [all_one, all_one, all_one, all_one, matB_less 0 a b (by omega), matB_less 1 a b (by omega), matB_less 2 a b (by omega), matB_three]
  have e0 : mB S (0, a, b) = S.any (theB a b) := rfl
  have e1 : mB S (1, a, b) = !S.any (theB a b) := rfl
  have e2 : mB S (2, a, b) = S.any (beginsB a b) := rfl
  have e3 : mB S (3, a, ⟨#[]⟩) = S.any (namedB a) := rfl
  have h1 : S.any (theB a b) = true → S.any (beginsB a b) = true := any_of fun x => begins_of
  have h2 : S.any (beginsB a b) = true → S.any (namedB a) = true := any_of fun x => has_of
  have hz : ((⟨#[]⟩ : ByteArray).toList == []) = true := by rw [ByteArray.toList_eq]; rfl
  rw [e0, e1, e2, e3, hz]
  generalize S.any (theB a b) = x0 at *
  generalize S.any (beginsB a b) = x2 at *
  generalize S.any (namedB a) = x3 at *
  generalize rightB S = R
  generalize nameB a = N
  generalize valueB b = V
  cases hRN : (R && (N && V)) with
  | true =>
    have hRN3 : (R && (N && true)) = true := by
      simp only [Bool.and_eq_true] at hRN ⊢
      exact ⟨hRN.1, hRN.2.1, trivial⟩
    rw [hRN3]
    refine ⟨_, _, _, _, _, _, rfl, rfl, rfl, rfl, .inl ⟨rfl, rfl, ?_⟩⟩
    cases x0 <;> cases x2 <;> cases x3 <;> simp_all
  | false =>
    cases hRN3 : (R && (N && true)) with
    | true => exact ⟨_, _, _, _, _, _, rfl, rfl, rfl, rfl, .inr ⟨rfl, rfl, rfl, rfl, .inl rfl⟩⟩
    | false => exact ⟨_, _, _, _, _, _, rfl, rfl, rfl, rfl, .inr ⟨rfl, rfl, rfl, rfl, .inr ⟨rfl, rfl⟩⟩⟩
set_option maxHeartbeats 800000 in
/-- the law's closure -/
theorem one_is (Bn Bl : Nat) (nm : ByteArray) (oa : Option Addr) (n cap : Nat) (S : List L2) (kk : Int) (v : ByteArray) (b : Bool) (q : Int) (w : World) (hn : w.cell? ⟨Bn, 0, none⟩ = some (.string nm)) (hl : w.cell? ⟨Bl, 0, none⟩ = some (.slice oa n cap)) (hS : Ls w oa n cap S) (h6 : n ≤ 6) (hq : allF [(kk, nm, v)] S = (b, q)) :
    Calls Try.prog 19 #[.int .i64 kk, .string v, .pointer (some ⟨Bn, 0, none⟩), .pointer (some ⟨Bl, 0, none⟩)] w fun e w' => e = .returned (.tuple #[.bool b, .int .i64 q]) ∧ Below w.heap.size w w' := by
  have B1 := (Below.refl w.heap.size w).alloc (Nat.le_refl _) (.cells #[.int .i64 kk, .string nm, .string v] 35)
  have M1 := Ms.one w (kk, nm, v)
  have L1 := hS.below B1 (Nat.le_refl _)
  have l1 := (B1.cell (World.block_lt_of_cell? _ _ hl)).trans hl
  go_enter Try.func19, Try.ntmps19
  go_wp2_with fail
  refine (all_is _ 1 1 _ oa n cap S b q _ M1 L1 h6 (by omega) hq).mono ?_
  rintro e w2 ⟨rfl, B2⟩
  have B3 := B1.trans (B2.mono B1.size)
  clear M1 L1 B1 B2
  go_wp2_with fail
  go_ret2
  exact ⟨rfl, B3⟩
set_option maxRecDepth 100000 in
set_option maxHeartbeats 4000000 in
theorem walk (oa : Option Addr) (n cap : Nat) (l0 : List L2) (a1 a2 : ByteArray) (om : Option Addr) (nm cm : Nat) (m0 : List M3) (w : World) (h0 : Ls w oa n cap l0) (hc : cap ≤ maxLen) (ha1 : a1.size ≤ maxLen) (ha2 : a2.size ≤ maxLen) (hM0 : Ms w om nm cm m0) (hcm : cm ≤ maxLen) :
    Calls Try.prog 5 #[.slice oa n cap, .string a1, .string a2, .slice om nm cm] w fun e w' => e = .returned (.bool true) ∧ Below w.heap.size w w' := by
  have HFew := fun w1 (B : Below w.heap.size w w1) => few_new oa n cap l0 w1 (h0.below B (Nat.le_refl _)) hc
  have HAsk := fun w1 (B : Below w.heap.size w w1) => asked_new om nm cm m0 w1 (hM0.below B (Nat.le_refl _)) hcm
  have hSl := fewL_length l0
  have hMl := fewM_length m0
  rw [h0.len] at hSl
  rw [hM0.len] at hMl
  have hm6 : min n 6 ≤ 6 := Nat.min_le_right _ _
  have hk6 : min nm 6 ≤ 6 := Nat.min_le_right _ _
  generalize fewL l0 = S at *
  generalize fewM m0 = M at *
  generalize min n 6 = m at *
  generalize min nm 6 = k at *
  clear h0 hc hM0 hcm
  have HMl := Lib.hid hMl
  clear hMl hSl
  obtain ⟨wb, hwb⟩ : ∃ wb, wb = (w.alloc (.cells #[.slice oa n cap] 22)).alloc (.cells #[.string a1] 9) := ⟨_, rfl⟩
  have Bb : Below w.heap.size w wb := by subst hwb; exact ((Below.refl _ w).alloc (Nat.le_refl _) _).alloc (by simp) _
  have zb : wb.heap.size = w.heap.size + 2 := by subst hwb; simp
  have d0 : wb.cell? ⟨w.heap.size, 0, none⟩ = some (.slice oa n cap) := by subst hwb; simp
  have d1 : wb.cell? ⟨w.heap.size + 1, 0, none⟩ = some (.string a1) := by subst hwb; simp
  have f0 : wb.frozen? ⟨w.heap.size, 0, none⟩ = false := by subst hwb; simp
  have f1 : wb.frozen? ⟨w.heap.size + 1, 0, none⟩ = false := by subst hwb; simp
  go_enter Try.func5, Try.ntmps5
  go_wp2_with fail
  rw [← hwb]
  clear hwb
  obtain ⟨D, hD⟩ : ∃ D, D = w.heap.size := ⟨_, rfl⟩
  have HD := Lib.hid hD
  rw [← hD] at d0 d1 f0 f1 zb ⊢
  clear hD
  refine (HFew _ Bb).mono ?_
  rintro e w1 ⟨⟨oa1, c1, rfl, hS1, hnS⟩, B1⟩
  have d01 := keepL B1 d0
  have d11 := keepL B1 d1
  have f01 := (B1.frozen (World.block_lt_of_cell? _ _ d0)).trans f0
  have f11 := (B1.frozen (World.block_lt_of_cell? _ _ d1)).trans f1
  have z1 := B1.size
  have Bw1 := Bb.trans (B1.mono Bb.size)
  clear HFew d0 d1 f0 f1 B1
  go_wp2_with fail
  refine (HAsk _ Bw1).mono ?_
  rintro e w2 ⟨⟨om1, e1, rfl, hM2, hnM⟩, B2⟩
  have hS2 := hS1.below B2 (Nat.le_refl _)
  have d02 := keepL B2 d01
  have d12 := keepL B2 d11
  have f02 := (B2.frozen (World.block_lt_of_cell? _ _ d01)).trans f01
  have f12 := (B2.frozen (World.block_lt_of_cell? _ _ d11)).trans f11
  have z2 := B2.size
  have Bw2 := Bw1.trans (B2.mono Bw1.size)
  clear HAsk d01 d11 f01 f11 hS1 Bw1 B2
  obtain ⟨w3, hw3⟩ : ∃ w3, w3 = w2.setCell ⟨D, 0, none⟩ (.slice oa1 m c1) := ⟨_, rfl⟩
  have zD : D + 2 ≤ w3.heap.size := by subst hw3; simp; omega
  have hS3 : Ls w3 oa1 m c1 S := by subst hw3; exact setL hS2 (fun g o e => by have := hnS g o e; omega) _
  have hM3 : Ms w3 om1 k e1 M := by subst hw3; exact setM hM2 (fun g o e => by have := hnM g o e; omega) _
  have d03 : w3.cell? ⟨D, 0, none⟩ = some (.slice oa1 m c1) := by subst hw3; exact World.cell?_setCell_same _ _ _ d02
  have d13 : w3.cell? ⟨D + 1, 0, none⟩ = some (.string a1) := by subst hw3; rw [World.cell?_setCell_other _ _ _ _ (fun e => absurd (congrArg Addr.block e) (by simp))]; exact d12
  have f13 : w3.frozen? ⟨D + 1, 0, none⟩ = false := by subst hw3; simp [f12]
  have Bw3 : Below w.heap.size w w3 := by subst hw3; exact Bw2.setCell (by rw [HD.out]; exact Nat.le_refl _) _
  go_wp2_with fail
  rw [← hw3]
  clear hw3 hS2 hM2 d02 d12 f02 f12 Bw2
  obtain ⟨x1, hx1, hx1a, hx1b, hx1c⟩ := min_of a1.size 12
  obtain ⟨x2, hx2, hx2a, hx2b, hx2c⟩ := min_of a2.size 12
  change min (a1.size : Int) 12 = (x1 : Int) at hx1a
  change min (a2.size : Int) 12 = (x2 : Int) at hx2a
  clear hx1 hx2
  go_region
  generalize a2.extract 0 x2 = vv at *
  generalize a1.extract 0 x1 = nn at *
  obtain ⟨w4, hw4⟩ : ∃ w4, w4 = (w3.setCell ⟨D + 1, 0, none⟩ (.string nn)).drew := ⟨_, rfl⟩
  rw [← hw4]
  have zD4 : D + 2 ≤ w4.heap.size := by subst hw4; show D + 2 ≤ (w3.setCell ⟨D + 1, 0, none⟩ (.string nn)).heap.size; simp; omega
  have hS4 : Ls w4 oa1 m c1 S := by subst hw4; exact (setL hS3 (fun g o e => by have := hnS g o e; omega) _).below (Below.refl _ _).drew (Nat.le_refl _)
  have hM4 : Ms w4 om1 k e1 M := by subst hw4; exact (setM hM3 (fun g o e => by have := hnM g o e; omega) _).below (Below.refl _ _).drew (Nat.le_refl _)
  have d04 : w4.cell? ⟨D, 0, none⟩ = some (.slice oa1 m c1) := by subst hw4; show (w3.setCell ⟨D + 1, 0, none⟩ (.string nn)).cell? _ = _; rw [World.cell?_setCell_other _ _ _ _ (fun e => absurd (congrArg Addr.block e) (by simp))]; exact d03
  have d14 : w4.cell? ⟨D + 1, 0, none⟩ = some (.string nn) := by subst hw4; show (w3.setCell ⟨D + 1, 0, none⟩ (.string nn)).cell? _ = _; exact World.cell?_setCell_same _ _ _ d13
  have Bw4 : Below w.heap.size w w4 := by subst hw4; exact (Bw3.setCell (by show w.heap.size ≤ D + 1; rw [HD.out]; omega) _).drew
  clear hw4 hS3 hM3 d03 d13 f13 Bw3 hnS hnM ha1 ha2 hx1a hx1b hx1c hx2a hx2b hx2c zD z1 z2 zb
  obtain ⟨b0, b1, b2, b3, q, q3, k0, k1, k2, k3, hcase⟩ := kinds_facts S nn vv
  obtain ⟨bA, qA, kA, hA⟩ := all_two M S
  have K0 := Lib.hid k0
  have K1 := Lib.hid k1
  have K2 := Lib.hid k2
  have K3 := Lib.hid k3
  have KA := Lib.hid kA
  have HC := Lib.hid hcase
  have HA := Lib.hid hA
  clear k0 k1 k2 k3 kA hcase hA
  go_wp2_with fail
  refine (one_is (D + 1) D nn oa1 m c1 S 0 vv b0 q w4 d14 d04 hS4 hm6 K0.out).mono ?_
  rintro e w5 ⟨rfl, B5⟩
  have hS5 := hS4.below B5 (Nat.le_refl _)
  have hM5 := hM4.below B5 (Nat.le_refl _)
  have d05 := keepL B5 d04
  have d15 := keepL B5 d14
  have Bw5 := Bw4.trans (B5.mono Bw4.size)
  clear B5 hS4 hM4 d04 d14 Bw4
  go_wp2_with fail
  refine (one_is (D + 1) D nn oa1 m c1 S 1 vv b1 q w5 d15 d05 hS5 hm6 K1.out).mono ?_
  rintro e w6 ⟨rfl, B6⟩
  have hS6 := hS5.below B6 (Nat.le_refl _)
  have hM6 := hM5.below B6 (Nat.le_refl _)
  have d06 := keepL B6 d05
  have d16 := keepL B6 d15
  have Bw6 := Bw5.trans (B6.mono Bw5.size)
  clear B6 hS5 hM5 d05 d15 Bw5
  go_wp2_with fail
  refine (one_is (D + 1) D nn oa1 m c1 S 2 vv b2 q w6 d16 d06 hS6 hm6 K2.out).mono ?_
  rintro e w7 ⟨rfl, B7⟩
  have hS7 := hS6.below B7 (Nat.le_refl _)
  have hM7 := hM6.below B7 (Nat.le_refl _)
  have d07 := keepL B7 d06
  have d17 := keepL B7 d16
  have Bw7 := Bw6.trans (B7.mono Bw6.size)
  clear B7 hS6 hM6 d06 d16 Bw6
  go_wp2_with fail
  refine (one_is (D + 1) D nn oa1 m c1 S 3 ⟨#[]⟩ b3 q3 w7 d17 d07 hS7 hm6 K3.out).mono ?_
  rintro e w8 ⟨rfl, B8⟩
  have hS8 := hS7.below B8 (Nat.le_refl _)
  have hM8 := hM7.below B8 (Nat.le_refl _)
  have d08 := keepL B8 d07
  have zw7 : w4.heap.size ≤ w4.heap.size := Nat.le_refl _
  have Bw8 := Bw7.trans (B8.mono Bw7.size)
  clear B8 hS7 hM7 d07 d17 Bw7 K0 K1 K2 K3 zw7
  have HT := fun w => alive_any w
  rcases HC.out with ⟨rfl, rfl, hb⟩ | ⟨rfl, rfl, rfl, rfl, hb⟩
  · clear HC
    rcases hb with ⟨rfl, rfl, rfl, rfl⟩ | ⟨rfl, rfl, rfl, rfl⟩ | ⟨rfl, rfl, rfl⟩
    all_goals
      go_wp2_with fail
      refine (HT _).mono ?_
      rintro e w9 ⟨rfl, B9⟩
      have hS9 := hS8.below B9 (Nat.le_refl _)
      have hM9 := hM8.below B9 (Nat.le_refl _)
      have d09 := keepL B9 d08
      have Bw9 := Bw8.trans (B9.mono Bw8.size)
      clear B9 hS8 hM8 d08 Bw8 HT
      go_wp2_with fail
      refine (all_is om1 k e1 M oa1 m c1 S bA qA w9 hM9 hS9 hm6 hk6 KA.out).mono ?_
      rintro e w10 ⟨rfl, B10⟩
      have hS10 := hS9.below B10 (Nat.le_refl _)
      have hM10 := hM9.below B10 (Nat.le_refl _)
      have d010 := keepL B10 d09
      have Bw10 := Bw9.trans (B10.mono Bw9.size)
      clear B10 hS9 hM9 d09 Bw9
      rcases HA.out with rfl | ⟨hqA, rfl⟩
      · have HAt := Lib.hid (fun j (hj : j < M.length) => all_at KA.out j hj)
        have HbA := Lib.hid (all_ok KA.out).2.2
        clear KA HA
        go_wp2_with fail
        go_loopw [8, 20, 21, 22, 23, 24, 25, 26, 145] (fun s8 s20 _ _ _ _ _ _ s145 wr => ∃ (j : Nat) (c : Bool), j ≤ k ∧ s8 = .bool false ∧ s20 = .bool c ∧ s145 = .int .i64 j ∧ Hid (c = (M.take j).all (mB S)) ∧ Below w10.heap.size w10 wr) (fun _ _ _ _ _ _ _ _ s145 _ => k - (intOf s145).toNat)
        case atStart => exact ⟨0, true, Nat.zero_le _, rfl, rfl, rfl, by show _ = _; simp, Below.refl _ _⟩
        case round =>
          obtain ⟨j, c, hj, rfl, rfl, rfl, HJ, hB⟩ := hrel
          by_cases hlt : j < k
          · have hMr := hM10.below hB (Nat.le_refl _)
            have hSr := hS10.below hB (Nat.le_refl _)
            have hroom := hMr.room
            obtain ⟨g, o, rfl, p0, p1, p2⟩ := hMr.cell j hlt
            obtain ⟨q1, q2, q3⟩ := HAt.out j (by rw [HMl.out]; exact hlt)
            rw [← HJ.out] at q2 q3
            generalize M.getD j zM = x at *
            obtain ⟨a, s, t⟩ := x
            dsimp only at p0 p1 p2
            obtain ⟨v, hv⟩ : ∃ v, v = mB S (a, s, t) := ⟨_, rfl⟩
            rw [← hv] at q1 q3
            have Q1 := Lib.hid q1
            have Q2 := Lib.hid q2
            have Q3 := Lib.hid q3
            have dr := keepL hB d010
            have B2 : Below wr.heap.size wr ((wr.alloc (.cells #[.int .i64 a, .string s, .string t] 35)).alloc (.cells #[.int .i64 a, .string s, .string t] 35)) := ((Below.refl _ wr).alloc (Nat.le_refl _) _).alloc (by simp) _
            have dd : ∀ o o', ((wr.alloc o).alloc o').cell? ⟨D, 0, none⟩ = some (.slice oa1 m c1) := fun o o' => keepL (((Below.refl _ wr).alloc (Nat.le_refl _) o).alloc (by simp) o') dr
            have hone : Ms ((wr.alloc (.cells #[.int .i64 a, .string s, .string t] 35)).alloc (.cells #[.int .i64 a, .string s, .string t] 35)) (some ⟨wr.heap.size + 1, 0, none⟩) 1 1 [(a, s, t)] := by
              have := Ms.one (wr.alloc (.cells #[.int .i64 a, .string s, .string t] 35)) (a, s, t)
              simpa [World.size_alloc] using this
            have BB := hB.trans (B2.mono hB.size)
            clear q1 q2 q3 hv dr hS10 hM10 d010
            go_wp2_with fail
            refine (all_is _ 1 1 [(a, s, t)] oa1 m c1 S v 0 _ hone (hSr.below B2 (Nat.le_refl _)) hm6 (by omega) Q1.out).mono ?_
            rintro e w12 ⟨rfl, B12⟩
            have d12 := keepL B12 (dd _ _)
            have hM12 := ((hMr.below B2 (Nat.le_refl _)).below B12 (Nat.le_refl _)).take (i := j) (by omega)
            have hS12 := (hSr.below B2 (Nat.le_refl _)).below B12 (Nat.le_refl _)
            have BB12 := BB.trans (B12.mono BB.size)
            have hcc : (c != c) = false := by cases c <;> rfl
            have hj0 : (0 : Int) ≤ (j : Int) := by omega
            have hje : (j : Int) ≤ (e1 : Int) := by omega
            have hjk : (j : Int) ≤ (k : Int) := by omega
            have hjN : j ≤ e1 := by omega
            clear dd hone B2 hMr hSr p0 p1 p2 hB BB B12 Q1
            go_wp2_with fail
            go_region_held3 (fun w' => w'.cell? ⟨D, 0, none⟩ = some (.slice oa1 m c1)) (first | exact keepL hB13 d12 | go_keep) (first | (go_at_call 9; refine (all_is _ j e1 (M.take j) oa1 m c1 S c 0 _ (hM12.below (Below.refl _ _).drew (Nat.le_refl _)) (hS12.below (Below.refl _ _).drew (Nat.le_refl _)) hm6 (by omega) Q2.out).mono ?_; rintro e w13 ⟨rfl, hB13⟩))
            have BB13 : Below w10.heap.size w10 w13 := BB12.drew.trans (hB13.mono BB12.size)
            have HJn : Hid ((M.take (j + 1)).all (mB S) = (c && v)) := Q3
            clear BB12 hB13 hM12 hS12 d12 Q2 Q3
            cases c with
            | true =>
              go_wp2_with fail
              go_roundw
              case rel => exact ⟨j + 1, v, by omega, rfl, rfl, by go_num, by show _ = _; rw [HJn.out]; simp, BB13⟩
              case measure => simp [intOf]; omega
            | false =>
              go_wp2_with fail
              go_roundw
              case rel => exact ⟨j + 1, false, by omega, rfl, rfl, by go_num, by show _ = _; rw [HJn.out]; simp, BB13⟩
              case measure => simp [intOf]; omega
          · obtain rfl : j = k := by omega
            obtain rfl : c = bA := by
              rw [HJ.out, HbA.out, List.take_of_length_le (by rw [HMl.out]; exact Nat.le_refl _)]
            clear HAt HJ HbA hS10 hM10 d010
            go_wp2_with fail
            go_ret
            exact ⟨by simp, Bw10.trans (hB.mono Bw10.size)⟩
      · clear HA KA hS10 hM10 d010
        go_wp2_with fail
        go_ret
        exact ⟨rfl, Bw10⟩
  · clear HC HA KA
    rcases hb with rfl | ⟨rfl, rfl⟩
    · go_wp2_with fail
      refine (HT _).mono ?_
      rintro e w9 ⟨rfl, B9⟩
      go_wp2_with fail
      go_ret
      exact ⟨rfl, Bw8.trans (B9.mono Bw8.size)⟩
    · go_wp2_with fail
      refine (HT _).mono ?_
      rintro e w9 ⟨rfl, B9⟩
      go_wp2_with fail
      go_ret
      exact ⟨rfl, Bw8.trans (B9.mono Bw8.size)⟩
end Go.Proofs.Ytbbbbkagoonklaa.labelKinds
