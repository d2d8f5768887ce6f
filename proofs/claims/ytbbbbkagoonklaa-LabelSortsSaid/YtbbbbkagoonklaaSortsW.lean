/-
  The law's walk: sorted, labels may be, and are so again; another order ahead makes no difference.
-/
import Derived.Test.YtbbbbkagoonklaaLabP
import Derived.OwnWalk
namespace Go.Proofs.Ytbbbbkagoonklaa.labelSorts
open Go.RowKit Go.Shelf
set_option linter.unusedVariables false

set_option maxRecDepth 100000 in
set_option maxHeartbeats 4000000 in
theorem walk (oa : Option Addr) (n cap : Nat) (l0 : List L2) (turn : Int) (w : World) (h0 : Ls w oa n cap l0) (hc : cap ≤ maxLen) :
    Calls Try.prog 4 #[.slice oa n cap, .int .i64 turn] w fun e w' => e = .returned (.bool true) ∧ Below w.heap.size w w' := by
  have HFew := few_any oa n cap l0 w h0 hc
  have hSl := fewL_length l0
  rw [h0.len] at hSl
  have hm6 : min n 6 ≤ 6 := Nat.min_le_right _ _
  generalize fewL l0 = S at *
  generalize min n 6 = m at *
  clear h0 hc
  obtain ⟨r, q, hq, hcase⟩ := sortF_is S
  obtain ⟨T, hTe, hT2⟩ := turn3 turn
  have HT := fun w => alive_any w
  go_enter Try.func4, Try.ntmps4
  go_wp2_with fail
  refine HFew.mono ?_
  rintro e w1 ⟨⟨oa1, c1, rfl, hS1⟩, B1⟩
  clear HFew
  go_wp2_with fail
  refine (sort_is oa1 m c1 S r q w1 hS1 (by omega) hq).mono ?_
  rintro e w2 ⟨⟨oa2, n2, c2, rfl, hR2, hn2⟩, B2⟩
  have B12 := B1.trans (B2.mono B1.size)
  have hS2 := hS1.below B2 (Nat.le_refl _)
  clear hS1 B1 B2
  rcases hcase with ⟨rfl, hr, hrr, hrl, h1⟩ | ⟨hq0, hq1, rfl, hnr⟩
  · obtain rfl : m = n2 := by have := hR2.len; omega
    have HQ := Lib.hid hq
    have HRR := Lib.hid hrr
    have HRL := Lib.hid hrl
    have HSl := Lib.hid hSl
    clear hq hrr hrl hSl
    go_wp2_with fail
    refine (sort_is oa2 m c2 r r 0 w2 hR2 (by omega) HRR.out).mono ?_
    rintro e w3 ⟨⟨oa3, n3, c3, rfl, hR3, _⟩, B3⟩
    obtain rfl : m = n3 := by rw [← hR3.len, ← hR2.len]
    have B13 := B12.trans (B3.mono B12.size)
    have hS3 := hS2.below B3 (Nat.le_refl _)
    have hQ3 := hR2.below B3 (Nat.le_refl _)
    clear hS2 hR2 B3 B12 hn2
    have own0 : w3.ownsRow w3.heap.size 41 2 (.slice none 0 0) 0 (cellsL ([] : List L2)) := World.ownsRow_nil _ _ _ _
    have hm1 : 1 ≤ m := by have := HSl.out; omega
    go_wp2_with fail
    go_loopw [9, 10, 40] (fun s9 _ s40 wr => ∃ k : Nat, k ≤ m ∧ s40 = .int .i64 k ∧ wr.ownsRow w3.heap.size 41 2 s9 k (cellsL ((turnL T S).take k)) ∧ Below w3.heap.size w3 wr) (fun _ _ s40 _ => m - (intOf s40).toNat)
    case atStart => exact ⟨0, Nat.zero_le _, rfl, by simpa using own0, Below.refl _ _⟩
    case round =>
      clear own0
      obtain ⟨k, hk, rfl, hown, hB⟩ := hrel
      by_cases hlt : k < m
      · have hqm : (k + T) % m < m := Nat.mod_lt _ (by omega)
        have hroom := hS3.room
        obtain ⟨g, o, rfl, p0, p1⟩ := (hS3.below hB (Nat.le_refl _)).cell (m - 1 - (k + T) % m) (by omega)
        have HX := Lib.hid (turnL_take T S m k HSl.out hlt)
        have hq1 : ((k : Int) + (T : Int)).tmod (m : Int) = (((k + T) % m : Nat) : Int) := by rw [Int.tmod_eq_emod_of_nonneg (by omega), Int.natCast_emod, Int.natCast_add]
        have hq2 : ((k : Int) + (T : Int)) % (m : Int) = (((k + T) % m : Nat) : Int) := by rw [Int.natCast_emod, Int.natCast_add]
        generalize (k + T) % m = z at *
        obtain ⟨y, hy⟩ : ∃ y : Nat, y = m - 1 - z := ⟨_, rfl⟩
        rw [← hy] at HX p0 p1
        have hyz : (m : Int) - 1 - (z : Int) = (y : Int) := by omega
        have hym : y < m := by omega
        have hyM : (y : Int) < (m : Int) := by omega
        have hm0 : ((m : Int) == 0) = false := by simp; omega
        clear hy
        generalize S.getD y zL = x at *
        obtain ⟨s, t⟩ := x
        dsimp only at p0 p1
        have hone := Ls.one wr (s, t)
        have hBs := hB.size
        clear hS3 hQ3 hR3
        go_wp2_with (first | (at_builtin; refine wpList_append_ls _ rfl (.tmp 43) (.tmp 60) rfl w3.heap.size rfl (hown.alloc _) rfl hone (by omega) (by simp <;> omega) ?_; intro v1 wN own1 hg1; have BN : Below w3.heap.size w3 wN := (hB.alloc hBs _).grown hg1 (by simp <;> omega) (fun r e => (hown.lt r e).1)))
        rw [← cellsL_append, ← HX.out] at own1
        clear hone hg1 hown
        go_wp2_with fail
        go_roundw
        case rel => exact ⟨k + 1, by omega, by go_num, own1, BN⟩
        case measure => simp [intOf]; omega
      · obtain rfl : k = m := by omega
        rw [List.take_of_length_le (by rw [turnL_length, HSl.out]; omega)] at hown
        obtain ⟨oa4, c4, rfl, hD, hm'⟩ := Ls.of_own (by rw [turnL_length, HSl.out]) hown
        have HQT : Hid (sortF (turnL T S) = (r, 0)) := by show _ = _; rw [sortF_perm (turnL_perm T S), HQ.out]
        have hQ4 := hQ3.below hB (Nat.le_refl _)
        have hR4 := hR3.below hB (Nat.le_refl _)
        have B14 := B13.trans (hB.mono B13.size)
        clear hQ3 hR3 hS3 hown hB B13
        go_wp2_with fail
        refine (sort_is oa4 k c4 (turnL T S) r 0 _ hD (by omega) HQT.out).mono ?_
        rintro e w5 ⟨⟨oa5, n5, c5, rfl, hR5, _⟩, B5⟩
        obtain rfl : k = n5 := by rw [← hR5.len, ← hQ4.len]
        have hQ5 := hQ4.below B5 (Nat.le_refl _)
        have hP5 := hR4.below B5 (Nat.le_refl _)
        have B15 := B14.trans (B5.mono B14.size)
        clear hQ4 hR4 B14 B5 hD
        go_wp2_with fail
        refine (HT _).mono ?_
        rintro e w6 ⟨rfl, B6⟩
        have hR6 := hR5.below B6 (Nat.le_refl _)
        have hQ6 := hQ5.below B6 (Nat.le_refl _)
        have hP6 := hP5.below B6 (Nat.le_refl _)
        have B16 := B15.trans (B6.mono B15.size)
        clear hR5 hQ5 hP5 B15 B6
        go_wp2_with fail
        refine (right_is oa2 k c2 r true _ hQ6 (by omega) hr).mono ?_
        rintro e w7 ⟨rfl, B7⟩
        have hR7 := hR6.below B7 (Nat.le_refl _)
        have hQ7 := hQ6.below B7 (Nat.le_refl _)
        have hP7 := hP6.below B7 (Nat.le_refl _)
        have B17 := B16.trans (B7.mono B16.size)
        clear hR6 hQ6 hP6 B16 B7
        go_wp2_with fail
        refine (same_any oa2 k c2 oa3 k c3 r _ hQ7 hP7 (by omega)).mono ?_
        rintro e w8 ⟨rfl, B8⟩
        have hR8 := hR7.below B8 (Nat.le_refl _)
        have hQ8 := hQ7.below B8 (Nat.le_refl _)
        have B18 := B17.trans (B8.mono B17.size)
        clear hR7 hQ7 hP7 B17 B8
        go_wp2_with fail
        refine (same_any oa2 k c2 oa5 k c5 r _ hQ8 hR8 (by omega)).mono ?_
        rintro e w9 ⟨rfl, B9⟩
        have B19 := B18.trans (B9.mono B18.size)
        clear hR8 hQ8 B18 B9
        go_wp2_with fail
        go_ret
        exact ⟨rfl, B19⟩
  · obtain rfl : n2 = 0 := by have := hR2.len; simpa using this.symm
    clear hR2 hq hTe
    go_wp2_with fail
    refine (HT _).mono ?_
    rintro e w3 ⟨rfl, B3⟩
    have hS3 := hS2.below B3 (Nat.le_refl _)
    have B13 := B12.trans (B3.mono B12.size)
    clear hS2 B12 B3
    go_wp2_with fail
    refine (right_is oa1 m c1 S false _ hS3 (by omega) hnr).mono ?_
    rintro e w4 ⟨rfl, B4⟩
    go_wp2_with fail
    go_ret
    exact ⟨rfl, B13.trans (B4.mono B13.size)⟩
end Go.Proofs.Ytbbbbkagoonklaa.labelSorts
