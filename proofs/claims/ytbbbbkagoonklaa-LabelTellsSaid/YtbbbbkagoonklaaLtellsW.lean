/-
  The law's walk: which labels may be, any in order, which matchers may be, and whether any match, is as the document says.
-/
import Derived.Test.YtbbbbkagoonklaaLabP
import Derived.BigQuiet
import Derived.StillTailTactics
import Derived.Deep.RegionHeld3
namespace Go.Proofs.Ytbbbbkagoonklaa.labelTells
open Go.RowKit Go.Shelf
set_option linter.unusedVariables false

theorem keepL {w w' : World} {a : Addr} {v : Value} (hB : Below w.heap.size w w') (h : w.cell? a = some v) : w'.cell? a = some v := (hB.cell (World.block_lt_of_cell? _ _ h)).trans h
set_option maxRecDepth 100000 in
set_option maxHeartbeats 4000000 in
theorem walk (oa : Option Addr) (n cap : Nat) (l0 : List L2) (om : Option Addr) (nm cm : Nat) (m0 : List M3) (w : World) (h0 : Ls w oa n cap l0) (hc : cap ≤ maxLen) (hM0 : Ms w om nm cm m0) (hcm : cm ≤ maxLen) :
    Calls Try.prog 3 #[.slice oa n cap, .slice om nm cm] w fun e w' => e = .returned (.bool true) ∧ Below w.heap.size w w' := by
  have HFew := few_any oa n cap l0 w h0 hc
  have HAsk := fun w1 (B : Below w.heap.size w w1) => asked_any om nm cm m0 w1 (hM0.below B (Nat.le_refl _)) hcm
  have hSl := fewL_length l0
  have hMl := fewM_length m0
  have hSS := fewL_short l0
  have hMS := fewM_short m0
  rw [h0.len] at hSl
  rw [hM0.len] at hMl
  have hm6 : min n 6 ≤ 6 := Nat.min_le_right _ _
  have hk6 : min nm 6 ≤ 6 := Nat.min_le_right _ _
  generalize fewL l0 = S at *
  generalize fewM m0 = M at *
  generalize min n 6 = m at *
  generalize min nm 6 = k at *
  clear h0 hc hM0 hcm
  obtain ⟨r, q, hq⟩ : ∃ r q, sortF S = (r, q) := ⟨_, _, rfl⟩
  obtain ⟨b, f, hf⟩ : ∃ b f, allF M S = (b, f) := ⟨_, _, rfl⟩
  obtain ⟨R, hR⟩ : ∃ R, rightB S = R := ⟨_, rfl⟩
  obtain ⟨K, hK⟩ : ∃ K, matsB M = K := ⟨_, rfl⟩
  have hbf : (R && K) = true ∧ b = M.all (mB S) ∧ f = 0 ∨ (R && K) = false ∧ b = false ∧ f = 1 := by
    unfold allF at hf
    rw [hR, hK] at hf
    cases hRK : R && K with
    | true =>
      rw [hRK, if_pos rfl] at hf
      injection hf with e1 e2
      exact .inl ⟨rfl, e1.symm, e2.symm⟩
    | false =>
      rw [hRK, if_neg (by simp)] at hf
      injection hf with e1 e2
      exact .inr ⟨rfl, e1.symm, e2.symm⟩
  have HT := fun w => alive_any w
  have HQ := Lib.hid hq
  have HF := Lib.hid hf
  have HR := Lib.hid hR
  have HK := Lib.hid hK
  have HB := Lib.hid hbf
  have HSl := Lib.hid hSl
  have HMl := Lib.hid hMl
  have HSS := Lib.hid hSS
  have HMS := Lib.hid hMS
  clear hq hf hR hK hbf hSl hMl hSS hMS
  go_enter Try.func3, Try.ntmps3
  go_wp2_with fail
  refine HFew.mono ?_
  rintro e w1 ⟨⟨oa1, c1, rfl, hS1⟩, B1⟩
  clear HFew
  go_wp2_with fail
  refine (HAsk _ B1).mono ?_
  rintro e w2 ⟨⟨om1, d1, rfl, hM2⟩, B2⟩
  clear HAsk
  have hS2 := hS1.below B2 (Nat.le_refl _)
  have B12 := B1.trans (B2.mono B1.size)
  clear hS1 B1 B2
  go_wp2_with fail
  refine (sort_is oa1 m c1 S r q w2 hS2 (by omega) HQ.out).mono ?_
  rintro e w3 ⟨⟨oa2, n2, c2, rfl, hR3, hn2⟩, B3⟩
  have hS3 := hS2.below B3 (Nat.le_refl _)
  have hM3 := hM2.below B3 (Nat.le_refl _)
  have B13 := B12.trans (B3.mono B12.size)
  clear hS2 hM2 B12 B3
  go_wp2_with fail
  refine (all_is om1 k d1 M oa1 m c1 S b f _ hM3 hS3 hm6 hk6 HF.out).mono ?_
  rintro e w4 ⟨rfl, B4⟩
  have hR4 := hR3.below B4 (Nat.le_refl _)
  have hS4 := hS3.below B4 (Nat.le_refl _)
  have hM4 := hM3.below B4 (Nat.le_refl _)
  have B14 := B13.trans (B4.mono B13.size)
  clear hS3 hM3 hR3 B13 B4
  go_wp2_with fail
  refine (refSort_is oa1 m c1 S r q _ hS4 (by omega) HSS.out HQ.out).mono ?_
  rintro e w5 ⟨⟨oa3, n3, c3, rfl, hP5, _⟩, B5⟩
  obtain rfl : n2 = n3 := by rw [← hP5.len, ← hR4.len]
  have hR5 := hR4.below B5 (Nat.le_refl _)
  have hS5 := hS4.below B5 (Nat.le_refl _)
  have hM5 := hM4.below B5 (Nat.le_refl _)
  have B15 := B14.trans (B5.mono B14.size)
  clear hS4 hM4 hR4 B14 B5
  go_wp2_with fail
  refine (right_is oa1 m c1 S R _ hS5 hm6 HR.out).mono ?_
  rintro e w6 ⟨rfl, B6⟩
  have hR6 := hR5.below B6 (Nat.le_refl _)
  have hP6 := hP5.below B6 (Nat.le_refl _)
  have hS6 := hS5.below B6 (Nat.le_refl _)
  have hM6 := hM5.below B6 (Nat.le_refl _)
  have B16 := B15.trans (B6.mono B15.size)
  clear hS5 hM5 hR5 hP5 B15 B6
  go_wp2_with fail
  refine (refRight_is oa1 m c1 S R _ hS6 hm6 HSS.out HR.out).mono ?_
  rintro e w7 ⟨rfl, B7⟩
  have hR7 := hR6.below B7 (Nat.le_refl _)
  have hP7 := hP6.below B7 (Nat.le_refl _)
  have hS7 := hS6.below B7 (Nat.le_refl _)
  have hM7 := hM6.below B7 (Nat.le_refl _)
  have B17 := B16.trans (B7.mono B16.size)
  clear hS6 hM6 hR6 hP6 B16 B7
  have hRR : (R != R) = false := by cases R <;> rfl
  have hqq : (q != q) = false := by simp
  go_wp2_with fail
  refine (same_any oa2 n2 c2 oa3 n2 c3 r _ hR7 hP7 (by have := HSl.out; omega)).mono ?_
  rintro e w8 ⟨rfl, B8⟩
  have hS8 := hS7.below B8 (Nat.le_refl _)
  have hM8 := hM7.below B8 (Nat.le_refl _)
  have B18 := B17.trans (B8.mono B17.size)
  clear hS7 hM7 hR7 hP7 B17 B8
  go_wp2_with fail
  refine (HT _).mono ?_
  rintro e w9 ⟨rfl, B9⟩
  have hS9 := hS8.below B9 (Nat.le_refl _)
  have hM9 := hM8.below B9 (Nat.le_refl _)
  have B19 := B18.trans (B9.mono B18.size)
  clear hS8 hM8 B18 B9
  go_wp2_with fail
  go_loopw [4, 12, 55] (fun s4 _ s55 wr => ∃ j : Nat, j ≤ k ∧ s4 = .bool false ∧ s55 = .int .i64 j ∧ Below w9.heap.size w9 wr) (fun _ _ s55 _ => k - (intOf s55).toNat)
  case atStart => exact ⟨0, Nat.zero_le _, rfl, rfl, Below.refl _ _⟩
  case round =>
    obtain ⟨j, hj, rfl, rfl, hB⟩ := hrel
    by_cases hlt : j < k
    · have hroom := hM9.room
      obtain ⟨g, o, rfl, p0, p1, p2⟩ := (hM9.below hB (Nat.le_refl _)).cell j hlt
      have hms := HMS.out j (by rw [HMl.out]; exact hlt)
      generalize M.getD j zM = x at *
      obtain ⟨a, s, t⟩ := x
      dsimp only at p0 p1 p2 hms
      have H1 := fun W => mat_any (a, s, t) W
      have H2 := fun W => refMatcher_any (a, s, t) hms W
      generalize matB (a, s, t) = v at *
      dsimp only [aggM] at H1 H2
      have hvv : (v != v) = false := by cases v <;> rfl
      have e0 : (wr.alloc (.cells #[.int .i64 a, .string s, .string t] 35)).cell? ⟨wr.heap.size, 0, none⟩ = some (.int .i64 a) := by simp
      have e1 : (wr.alloc (.cells #[.int .i64 a, .string s, .string t] 35)).cell? ⟨wr.heap.size, 1, none⟩ = some (.string s) := by simp
      have e2 : (wr.alloc (.cells #[.int .i64 a, .string s, .string t] 35)).cell? ⟨wr.heap.size, 2, none⟩ = some (.string t) := by simp
      have B7 := hB.alloc hB.size (.cells #[.int .i64 a, .string s, .string t] 35)
      have hsz : (wr.alloc (.cells #[.int .i64 a, .string s, .string t] 35)).heap.size = wr.heap.size + 1 := by simp
      clear hM9 hS9
      go_wp2_with fail
      generalize wr.alloc (.cells #[.int .i64 a, .string s, .string t] 35) = w7 at *
      generalize wr.heap.size = Bx at *
      go_region_held3 (fun w' => w'.cell? ⟨Bx, 0, none⟩ = some (.int .i64 a) ∧ w'.cell? ⟨Bx, 1, none⟩ = some (.string s) ∧ w'.cell? ⟨Bx, 2, none⟩ = some (.string t)) (first | exact ⟨keepL hB3 e0, keepL hB3 e1, keepL hB3 e2⟩ | exact ⟨keepL hB4 (keepL hB3 e0), keepL hB4 (keepL hB3 e1), keepL hB4 (keepL hB3 e2)⟩ | go_keep) (first | (go_at_call 15; refine (H1 _).mono ?_; rintro e wu ⟨rfl, hB3⟩) | (go_at_call 16; refine (H2 _).mono ?_; rintro e wv ⟨rfl, hB4⟩))
      all_goals
        have B8 : Below w9.heap.size w9 wv := by
          have z1 : w7.drew.heap.size ≤ wu.heap.size := hB3.size
          have z2 : w7.drew.heap.size = w7.heap.size := rfl
          have z3 := B7.size
          exact (B7.drew.trans (hB3.mono (by omega))).trans (hB4.mono (by omega))
        go_wp2_with fail
        go_roundw
        case rel => exact ⟨j + 1, by omega, rfl, by go_num, B8⟩
        case measure => simp [intOf]; omega
    · obtain rfl : j = k := by omega
      have B20 := B19.trans (hB.mono B19.size)
      have hS20 := hS9.below hB (Nat.le_refl _)
      have hM20 := hM9.below hB (Nat.le_refl _)
      clear hS9 hM9 hB B19
      have hRef := refRight_is oa1 m c1 S R _ hS20 hm6 HSS.out HR.out
      cases R with
      | false =>
        obtain ⟨rfl, rfl⟩ : b = false ∧ f = 1 := by
          rcases HB.out with ⟨h, _⟩ | ⟨_, h⟩
          · simp at h
          · exact h
        clear hS20 hM20 hRR
        go_wp2_with fail
        refine hRef.mono ?_
        rintro e w10 ⟨rfl, B10⟩
        go_wp2_with fail
        go_ret
        exact ⟨rfl, B20.trans (B10.mono B20.size)⟩
      | true =>
        have hRefM := fun W (hW : Below wr.heap.size wr W) => refMatchers_is om1 j d1 M K W (hM20.below hW (Nat.le_refl _)) hk6 HMS.out HK.out
        cases K with
        | false =>
          obtain ⟨rfl, rfl⟩ : b = false ∧ f = 1 := by
            rcases HB.out with ⟨h, _⟩ | ⟨_, h⟩
            · simp at h
            · exact h
          clear hS20 hM20 hRR
          go_wp2_with fail
          refine hRef.mono ?_
          rintro e w10 ⟨rfl, B10⟩
          go_wp2_with fail
          refine (hRefM _ B10).mono ?_
          rintro e w11 ⟨rfl, B11⟩
          have B30 := B20.trans (B10.mono B20.size)
          go_wp2_with fail
          go_ret
          exact ⟨rfl, B30.trans (B11.mono B30.size)⟩
        | true =>
          obtain ⟨hb, rfl⟩ : b = M.all (mB S) ∧ f = 0 := by
            rcases HB.out with ⟨_, h⟩ | ⟨h, _⟩
            · exact h
            · simp at h
          have hAll := fun W (hW : Below wr.heap.size wr W) => refAll_all om1 j d1 M oa1 m c1 S b W (hM20.below hW (Nat.le_refl _)) (hS20.below hW (Nat.le_refl _)) hm6 hk6 HR.out HK.out hb.symm
          have hbb : (b == b) = true := by cases b <;> rfl
          clear hS20 hM20 hRR hb
          go_wp2_with fail
          refine hRef.mono ?_
          rintro e w10 ⟨rfl, B10⟩
          go_wp2_with fail
          refine (hRefM _ B10).mono ?_
          rintro e w11 ⟨rfl, B11⟩
          have B30 := B20.trans (B10.mono B20.size)
          have B31 := B10.trans (B11.mono B10.size)
          have B40 := B30.trans (B11.mono B30.size)
          clear B10 B11 B30 B20
          go_wp2_with fail
          refine (hAll _ B31).mono ?_
          rintro e w12 ⟨rfl, B12⟩
          go_wp2_with fail
          go_ret
          exact ⟨by simp, B40.trans (B12.mono B40.size)⟩
end Go.Proofs.Ytbbbbkagoonklaa.labelTells
