/-
  DueTells, walked.
-/
import Derived.Test.YteomenkojhppfaaDtellsA
namespace Go.Proofs.Yteomenkojhppfaa
open Go.RowKit
set_option linter.unusedVariables false

namespace dtells
/-- what lies behind two blocks that were laid, whichever of them first -/
theorem laid_a {w : World} {oa : Option Addr} {k cap : Nat} {l : List D2} (h : Ds w oa k cap l) (t i : Int) :
    (w.alloc (.cells #[] 24)).drew.ownsRow w.heap.size 24 2 (.slice (some ⟨w.heap.size, 0, none⟩) 0 0) 0 [] ∧ Ds (w.alloc (.cells #[] 24)).drew oa k cap l ∧ Below w.heap.size w (w.alloc (.cells #[] 24)).drew ∧ w.heap.size ≤ (w.alloc (.cells #[] 24)).drew.heap.size := by
  have B := ((Below.refl w.heap.size w).alloc (Nat.le_refl _) (.cells #[] 24)).drew
  exact ⟨World.ownsRow_made w #[] 0 (Nat.le_refl _) (Nat.zero_le _) (by simp), h.below B (Nat.le_refl _), B, B.size⟩
theorem laid_b {w : World} {oa : Option Addr} {k cap : Nat} {l : List D2} (h : Ds w oa k cap l) (t i : Int) :
    ((w.alloc (.cells #[] 24)).alloc (.cells #[.int .i64 t, .int .i64 i] 24)).drew.ownsRow w.heap.size 24 2 (.slice (some ⟨w.heap.size, 0, none⟩) 0 0) 0 [] ∧ Ds ((w.alloc (.cells #[] 24)).alloc (.cells #[.int .i64 t, .int .i64 i] 24)).drew oa k cap l ∧
      Below w.heap.size w ((w.alloc (.cells #[] 24)).alloc (.cells #[.int .i64 t, .int .i64 i] 24)).drew ∧ w.heap.size ≤ ((w.alloc (.cells #[] 24)).alloc (.cells #[.int .i64 t, .int .i64 i] 24)).drew.heap.size ∧
      Ds ((w.alloc (.cells #[] 24)).alloc (.cells #[.int .i64 t, .int .i64 i] 24)).drew (some ⟨w.heap.size + 1, 0, none⟩) 1 1 [(t, i)] := by
  have B := (((Below.refl w.heap.size w).alloc (Nat.le_refl _) (.cells #[] 24)).alloc (by simp) (.cells #[.int .i64 t, .int .i64 i] 24)).drew
  have h1 := Ds.one (w.alloc (.cells #[] 24)) (t, i)
  rw [World.size_alloc] at h1
  exact ⟨(World.ownsRow_made w #[] 0 (Nat.le_refl _) (Nat.zero_le _) (by simp)).alloc _, h.below B (Nat.le_refl _), B, B.size, h1.drew⟩
theorem laid_c {w : World} {oa : Option Addr} {k cap : Nat} {l : List D2} (h : Ds w oa k cap l) (t i : Int) :
    ((w.alloc (.cells #[.int .i64 t, .int .i64 i] 24)).alloc (.cells #[] 24)).drew.ownsRow w.heap.size 24 2 (.slice (some ⟨w.heap.size + 1, 0, none⟩) 0 0) 0 [] ∧ Ds ((w.alloc (.cells #[.int .i64 t, .int .i64 i] 24)).alloc (.cells #[] 24)).drew oa k cap l ∧
      Below w.heap.size w ((w.alloc (.cells #[.int .i64 t, .int .i64 i] 24)).alloc (.cells #[] 24)).drew ∧ w.heap.size ≤ ((w.alloc (.cells #[.int .i64 t, .int .i64 i] 24)).alloc (.cells #[] 24)).drew.heap.size ∧
      Ds ((w.alloc (.cells #[.int .i64 t, .int .i64 i] 24)).alloc (.cells #[] 24)).drew (some ⟨w.heap.size, 0, none⟩) 1 1 [(t, i)] := by
  have B := (((Below.refl w.heap.size w).alloc (Nat.le_refl _) (.cells #[.int .i64 t, .int .i64 i] 24)).alloc (by simp) (.cells #[] 24)).drew
  have h1 := (Ds.one w (t, i)).below ((Below.refl _ _).alloc (Nat.le_refl _) (.cells #[] 24)) (Nat.le_refl _)
  have h2 := World.ownsRow_made (e := 24) (size := 2) (w.alloc (.cells #[.int .i64 t, .int .i64 i] 24)) #[] 0 (Nat.le_refl _) (Nat.zero_le _) (by simp)
  rw [World.size_alloc] at h2
  exact ⟨own_base h2 (by omega), h.below B (Nat.le_refl _), B, B.size, h1.drew⟩
set_option maxRecDepth 100000 in
set_option maxHeartbeats 4000000 in
theorem walk (oa : Option Addr) (n cap : Nat) (l0 : List D2) (d : D2) (now : Int) (w : World) (h0 : Ds w oa n cap l0) (hc : cap ≤ maxLen) :
    Calls Try.prog 3 #[.slice oa n cap, .agg #[.int .i64 d.1, .int .i64 d.2], .int .i64 now] w fun e w' => e = .returned (.bool true) ∧ Below w.heap.size w w' := by
  obtain ⟨t, i⟩ := d
  have hf := fun W => few_any oa n cap W h0.room hc
  have B0 : Below w.heap.size w (w.alloc (.cells #[.int .i64 t, .int .i64 i] 24)) := (Below.refl _ w).alloc (Nat.le_refl _) _
  have h := (h0.below B0 (Nat.le_refl _)).few
  have hk : min n 70 ≤ 70 := Nat.min_le_right _ _
  generalize min n 70 = k at *
  generalize l0.take 70 = l at *
  clear h0
  dsimp only
  go_enter Try.func3, Try.ntmps3
  go_wp2_with fail
  have c0 : (w.alloc (.cells #[.int .i64 t, .int .i64 i] 24)).cell? ⟨w.heap.size, 0, none⟩ = some (.int .i64 t) := by simp
  have c1 : (w.alloc (.cells #[.int .i64 t, .int .i64 i] 24)).cell? ⟨w.heap.size, 1, none⟩ = some (.int .i64 i) := by simp
  have z1 : (w.alloc (.cells #[.int .i64 t, .int .i64 i] 24)).heap.size = w.heap.size + 1 := by simp
  generalize w.alloc (.cells #[.int .i64 t, .int .i64 i] 24) = w1 at *
  refine (hf _).mono ?_
  rintro e w2 ⟨rfl, rfl⟩
  clear hf
  go_wp2_with fail
  refine (push_r oa k cap l (t, i) _ h hk).mono ?_
  rintro r w3 ⟨⟨oA, mA, cA, eP, A, rfl, hA, kA, hP⟩, B3⟩
  have h3 := h.below B3 (Nat.le_refl _)
  have d0 := (B3.cell (p := ⟨w.heap.size, 0, none⟩) (show w.heap.size < _ by omega)).trans c0
  have d1 := (B3.cell (p := ⟨w.heap.size, 1, none⟩) (show w.heap.size < _ by omega)).trans c1
  have z3 := B3.size
  have B3' := B0.trans (B3.mono (by omega))
  clear h c0 c1 B0 B3
  go_wp2_with fail
  refine (pop_r oa k cap l _ h3 hk).mono ?_
  rintro r w4 ⟨⟨oB, mB, cB, x, eQ, Bq, rfl, hB, kB, hQ⟩, B4⟩
  have B4x : Below w3.heap.size w3 (w4.alloc (.cells #[.int .i64 x.1, .int .i64 x.2] 24)) := B4.alloc B4.size _
  have hA4 := hA.below B4x (Nat.le_refl _)
  have h4 := h3.below B4x (Nat.le_refl _)
  have hB4 := hB.below ((Below.refl _ _).alloc (Nat.le_refl _) (.cells #[.int .i64 x.1, .int .i64 x.2] 24)) (Nat.le_refl _)
  have e0 := (B4x.cell (p := ⟨w.heap.size, 0, none⟩) (show w.heap.size < _ by omega)).trans d0
  have e1 := (B4x.cell (p := ⟨w.heap.size, 1, none⟩) (show w.heap.size < _ by omega)).trans d1
  have x0 : (w4.alloc (.cells #[.int .i64 x.1, .int .i64 x.2] 24)).cell? ⟨w4.heap.size, 0, none⟩ = some (.int .i64 x.1) := by simp
  have x1 : (w4.alloc (.cells #[.int .i64 x.1, .int .i64 x.2] 24)).cell? ⟨w4.heap.size, 1, none⟩ = some (.int .i64 x.2) := by simp
  have z4 : (w4.alloc (.cells #[.int .i64 x.1, .int .i64 x.2] 24)).heap.size = w4.heap.size + 1 := by simp
  have z4' := B4.size
  have B4' := B3'.trans (B4x.mono (by omega))
  clear hA h3 hB d0 d1 B4 B4x B3'
  go_wp2_with fail
  generalize w4.alloc (.cells #[.int .i64 x.1, .int .i64 x.2] 24) = w5 at *
  generalize w4.heap.size = X at *
  refine (drain_r oa k cap l now _ h4 hk).mono ?_
  rintro r w6 ⟨⟨oC, mC, cC, oH, mH, cH, eR, C, H, rfl, hC, hH, kC, kH, hR⟩, B6⟩
  have hA6 := hA4.below B6 (Nat.le_refl _)
  have hB6 := hB4.below B6 (Nat.le_refl _)
  have h6 := h4.below B6 (Nat.le_refl _)
  have f0 := (B6.cell (p := ⟨w.heap.size, 0, none⟩) (show w.heap.size < _ by omega)).trans e0
  have f1 := (B6.cell (p := ⟨w.heap.size, 1, none⟩) (show w.heap.size < _ by omega)).trans e1
  have y0 := (B6.cell (p := ⟨X, 0, none⟩) (show X < _ by omega)).trans x0
  have y1 := (B6.cell (p := ⟨X, 1, none⟩) (show X < _ by omega)).trans x1
  have z6 := B6.size
  have B6' := B4'.trans (B6.mono (by omega))
  clear hA4 hB4 h4 e0 e1 x0 x1 B6 B4'
  have hkl := h6.len
  obtain ⟨I, hI⟩ : ∃ I : World → Prop, I = fun wx => (Ds wx oa k cap l ∧ Ds wx oA mA cA A ∧ Ds wx oB mB cB Bq ∧ Ds wx oC mC cC C ∧ Ds wx oH mH cH H) ∧ (wx.cell? ⟨w.heap.size, 0, none⟩ = some (.int .i64 t) ∧ wx.cell? ⟨w.heap.size, 1, none⟩ = some (.int .i64 i) ∧ wx.cell? ⟨X, 0, none⟩ = some (.int .i64 x.1) ∧ wx.cell? ⟨X, 1, none⟩ = some (.int .i64 x.2)) ∧ w.heap.size < wx.heap.size ∧ X < wx.heap.size ∧ Below w.heap.size w wx := ⟨_, rfl⟩
  have I6 : I w6 := by
    rw [hI]
    exact ⟨⟨h6, hA6, hB6, hC, hH⟩, ⟨f0, f1, y0, y1⟩, by omega, by omega, B6'⟩
  have st : Hid (∀ a b, I a → Below a.heap.size a b → I b) := by
    rw [hI]
    rintro a b ⟨⟨q1, q2, q3, q4, q5⟩, ⟨r1, r2, r3, r4⟩, s1, s2, s3⟩ hB
    have := hB.size
    exact ⟨⟨q1.below hB (Nat.le_refl _), q2.below hB (Nat.le_refl _), q3.below hB (Nat.le_refl _), q4.below hB (Nat.le_refl _), q5.below hB (Nat.le_refl _)⟩,
      ⟨(hB.cell (p := ⟨w.heap.size, 0, none⟩) s1).trans r1, (hB.cell (p := ⟨w.heap.size, 1, none⟩) s1).trans r2, (hB.cell (p := ⟨X, 0, none⟩) s2).trans r3, (hB.cell (p := ⟨X, 1, none⟩) s2).trans r4⟩, by omega, by omega, s3.trans (hB.mono (by omega))⟩
  have gt : Hid (∀ wx, I wx → (Ds wx oa k cap l ∧ Ds wx oA mA cA A ∧ Ds wx oB mB cB Bq ∧ Ds wx oC mC cC C ∧ Ds wx oH mH cH H) ∧ (wx.cell? ⟨w.heap.size, 0, none⟩ = some (.int .i64 t) ∧ wx.cell? ⟨w.heap.size, 1, none⟩ = some (.int .i64 i) ∧ wx.cell? ⟨X, 0, none⟩ = some (.int .i64 x.1) ∧ wx.cell? ⟨X, 1, none⟩ = some (.int .i64 x.2)) ∧ w.heap.size < wx.heap.size ∧ X < wx.heap.size ∧ Below w.heap.size w wx) := by
    rw [hI]
    exact fun wx h => h
  clear hI h6 hA6 hB6 hC hH f0 f1 y0 y1 B6' z1 z3 z4 z4' z6
  have R1 := fun b W (hb : b = dueB l) (hW : I W) => due_is oa k cap l b W (gt.out W hW).1.1 hk hb
  have R2 := fun b W (hb : b = dueB l) (hW : I W) => rdue_is oa k cap l b W (gt.out W hW).1.1 hk hb
  cases hb : dueB l with
  | false =>
    obtain ⟨rfl, rfl⟩ : eP = 1 ∧ A = [] := by rcases hP with ⟨_, h1, h2⟩ | ⟨h1, _⟩ | ⟨h1, _⟩ <;> simp_all
    obtain ⟨rfl, rfl, rfl⟩ : eQ = 1 ∧ Bq = [] ∧ x = (0, 0) := by rcases hQ with ⟨_, h1, h2, h3⟩ | ⟨h1, _⟩ | ⟨h1, _⟩ <;> simp_all
    obtain ⟨rfl, rfl, rfl⟩ : eR = 1 ∧ C = [] ∧ H = [] := by rcases hR with ⟨_, h1, h2, h3⟩ | ⟨h1, _⟩ <;> simp_all
    obtain ⟨⟨_, e1, e2, e3, e4⟩, _⟩ := gt.out _ I6
    obtain rfl : mA = 0 := e1.len.symm
    obtain rfl : mB = 0 := e2.len.symm
    obtain rfl : mC = 0 := e3.len.symm
    obtain rfl : mH = 0 := e4.len.symm
    have R1 := fun W hW => R1 false W hb.symm hW
    have R2 := fun W hW => R2 false W hb.symm hW
    clear e1 e2 e3 e4 hP hQ hR hb
    go_wp2_with fail
    refine (R1 _ I6).mono ?_
    rintro e w7 ⟨rfl, B7⟩
    have I7 := st.out _ _ I6 B7
    go_wp2_with fail
    refine (R2 _ I7).mono ?_
    rintro e w8 ⟨rfl, B8⟩
    have I8 := st.out _ _ I7 B8
    go_wp2_with fail
    refine (alive_any _).mono ?_
    rintro e w9 ⟨rfl, B9⟩
    have I9 := st.out _ _ I8 B9
    go_wp2_with fail
    refine (R2 _ I9).mono ?_
    rintro e w10 ⟨rfl, B10⟩
    have I10 := st.out _ _ I9 B10
    go_wp2_with fail
    refine (R2 _ I10).mono ?_
    rintro e w11 ⟨rfl, B11⟩
    have I11 := st.out _ _ I10 B11
    obtain ⟨_, ⟨p0, p1, p2, p3⟩, _, _, BB⟩ := gt.out _ I11
    clear I6 I7 I8 I9 I10 B7 B8 B9 B10 B11 R1 R2
    go_wp2_with fail
    refine bodyPost_ret (results_tmp rfl _ _ _) rfl ?_
    exact ⟨rfl, BB⟩
  | true =>
    have R1 := fun W hW => R1 true W hb.symm hW
    have R2 := fun W hW => R2 true W hb.symm hW
    have HP := Lib.hid hP
    have HQ := Lib.hid hQ
    have HR := Lib.hid hR
    have HB := Lib.hid hb
    clear hP hQ hR hb
    go_wp2_with fail
    refine (R1 _ I6).mono ?_
    rintro e w7 ⟨rfl, B7⟩
    have I7 := st.out _ _ I6 B7
    go_wp2_with fail
    refine (R2 _ I7).mono ?_
    rintro e w8 ⟨rfl, B8⟩
    have I8 := st.out _ _ I7 B8
    go_wp2_with fail
    refine (alive_any _).mono ?_
    rintro e w9 ⟨rfl, B9⟩
    have I9 := st.out _ _ I8 B9
    clear I6 I7 I8 B7 B8 B9 R1
    have hT := fun W => rtime_any t W
    obtain ⟨td, htd⟩ : ∃ td, td = timeB t := ⟨_, rfl⟩
    rw [← htd] at hT
    have HT := Lib.hid htd
    clear htd
    go_wp2_with fail
    refine (R2 _ I9).mono ?_
    rintro e w10 ⟨rfl, B10⟩
    have I10 := st.out _ _ I9 B10
    obtain ⟨⟨_, e1, _, _, _⟩, ⟨p0, p1, p2, p3⟩, pz, _, BB⟩ := gt.out _ I10
    clear I9 B10
    go_wp2_with fail
    refine (hT _).mono ?_
    rintro e w11 ⟨rfl, rfl⟩
    clear hT
    go_upto_if 56 with fail
    go_cut [] (fun wx => I wx)
    case first =>
      rcases HP.out with ⟨h1, h2, h3⟩ | ⟨_, h1, h2, h3, h4⟩ | ⟨_, h1, h2, h3, h4⟩
      · obtain rfl : td = false := by rw [HT.out]; exact h1.elim (fun h => absurd (h.symm.trans HB.out) (by simp)) (fun h => h)
        clear h1
        subst h2 h3
        obtain rfl : mA = 0 := e1.len.symm
        clear e1
        go_wp2_with fail
        go_meet
        case rel => exact I10
      · obtain rfl : td = true := by rw [HT.out]; exact h1
        obtain rfl : k = 64 := by omega
        clear h1 h2
        subst h3 h4
        obtain rfl : mA = 0 := e1.len.symm
        clear e1
        go_wp2_with fail
        go_meet
        case rel => exact I10
      · obtain rfl : td = true := by rw [HT.out]; exact h1
        have hk64 : ((k : Int) == 64) = false := by simp; omega
        have hkk : k < 64 := by omega
        clear h1 h2
        subst h3 h4
        obtain ⟨⟨hl10, _, _, _, _⟩, _⟩ := gt.out _ I10
        obtain ⟨uA, lA, bA, zA⟩ := laid_a hl10 t i
        obtain ⟨uB, lB, bB, zB, tB⟩ := laid_b hl10 t i
        obtain ⟨uC, lC, bC, zC, tC⟩ := laid_c hl10 t i
        go_wp2_with fail
        go_cut [86] (fun s86 wx => s86 = .bool false ∧ I wx)
        case first =>
          go_region_law (first
            | (refine step_append_ds _ (by rfl) (.tmp 78) (.tmp 79) (by rfl) w10.heap.size (by rfl) uA (by rfl) lA (by omega) zA ?_; intro v6 w6 own6 hg6; change World.grownBy _ w6 (some w10.heap.size) at hg6; have B6 := bA.grown hg6 zA (fun r e => by cases e; exact Nat.le_refl _); have r0 := (B6.cell (p := ⟨w.heap.size, 0, none⟩) pz).trans p0; have r1 := (B6.cell (p := ⟨w.heap.size, 1, none⟩) pz).trans p1)
            | (refine step_append_ds _ (by rfl) (.tmp 78) (.tmp 79) (by rfl) w10.heap.size (by rfl) uB (by rfl) lB (by omega) zB ?_; intro v6 w6 own6 hg6; change World.grownBy _ w6 (some w10.heap.size) at hg6; have B6 := bB.grown hg6 zB (fun r e => by cases e; exact Nat.le_refl _); have r0 := (B6.cell (p := ⟨w.heap.size, 0, none⟩) pz).trans p0; have r1 := (B6.cell (p := ⟨w.heap.size, 1, none⟩) pz).trans p1; have t6 := tB.kept hg6 (fun ad e => by cases e; dsimp only; omega))
            | (refine step_append_ds _ (by rfl) (.tmp 78) (.tmp 79) (by rfl) w10.heap.size (by rfl) uC (by rfl) lC (by omega) zC ?_; intro v6 w6 own6 hg6; change World.grownBy _ w6 (some (w10.heap.size + 1)) at hg6; have B6 := bC.grown hg6 zC (fun r e => by cases e; omega); have r0 := (B6.cell (p := ⟨w.heap.size, 0, none⟩) pz).trans p0; have r1 := (B6.cell (p := ⟨w.heap.size, 1, none⟩) pz).trans p1; have t6 := tC.kept hg6 (fun ad e => by cases e; dsimp only; omega))
            | (refine step_append_ds _ (by rfl) (.tmp 80) (.tmp 82) (by rfl) w10.heap.size (by rfl) own6 (by rfl) t6 (by omega) B6.size ?_; intro v9 w9' own9 hg9; change World.grownBy _ w9' v6.ownBlock at hg9; have B9 := B6.grown hg9 B6.size (fun r e => (own6.lt r e).1))
            | (refine step_append_ds _ (by rfl) (.tmp 80) (.tmp 82) (by rfl) w10.heap.size (by rfl) (own6.alloc _) (by rfl) (Ds.one w6 (t, i)) (by omega) (by have := B6.size; simp; omega) ?_; intro v9 w9' own9 hg9; change World.grownBy _ w9' v6.ownBlock at hg9; have B9 := (B6.alloc B6.size _).grown hg9 (by have := B6.size; simp; omega) (fun r e => (own6.lt r e).1))
            | (go_simp; go_at_call 14; have e9 := e1.below B9 (Nat.le_refl _); rw [List.nil_append, ← cellsD_append, Nat.zero_add] at own9; obtain ⟨o9, c9, ev9, hD9, m9⟩ := Ds.of_own (show (l ++ [(t, i)]).length = k + 1 by simp; omega) own9; subst ev9; refine (alike_is oA o9 _ _ cA c9 _ _ true _ e9 hD9 (by have := e1.len; simp at this; omega) (by omega) kA m9 (by simp)).mono ?_; rintro e wq ⟨rfl, Bq⟩; have Iq := st.out _ _ I10 (B9.trans (Bq.mono B9.size))))
          all_goals
            go_wp2_with fail
            go_meet
            case rel => exact ⟨rfl, Iq⟩
        case rest =>
          obtain ⟨rfl, Iq⟩ := hcut
          go_wp2_with fail
          go_meet
          case rel => exact Iq
    case rest =>
      clear I10 p0 p1 p2 p3 pz BB e1
      have I12 := hcut
      clear hcut
      obtain ⟨⟨hl12, _⟩, _⟩ := gt.out _ I12
      go_wp2_with fail
      refine (R2 _ I12).mono ?_
      rintro e w13 ⟨rfl, B13⟩
      have I13 := st.out _ _ I12 B13
      obtain ⟨⟨hl13, _⟩, _⟩ := gt.out _ I13
      clear I12 hl12 B13
      go_wp2_with fail
      refine (sorted_any oa k cap l _ hl13 (by omega)).mono ?_
      rintro e w14 ⟨⟨oS, cS, rfl, hS, mS, _⟩, B14⟩
      rw [sortI_is] at hS
      have I14 := st.out _ _ I13 B14
      obtain ⟨⟨_, _, eB, _, _⟩, ⟨p0, p1, p2, p3⟩, _, _, _⟩ := gt.out _ I14
      clear I13 hl13 B14
      go_upto_if 120 with fail
      go_cut [] (fun wx => I wx)
      case first =>
        rcases HQ.out with ⟨h1, _⟩ | ⟨_, h1, h2, h3, h4⟩ | ⟨_, h1, h2, h3⟩
        · exact absurd (h1.symm.trans HB.out) (by simp)
        · subst h1
          obtain rfl : k = 0 := hkl.symm
          subst h2 h3 h4
          obtain rfl : mB = 0 := eB.len.symm
          clear eB hS
          go_wp2_with fail
          go_meet
          case rel => exact I14
        · rw [h3] at hS
          have hk0 : ((k : Int) == 0) = false := by simp; omega
          subst h2
          obtain ⟨gS, uS, rfl, s0, s1⟩ := hS.cell 0 (by omega)
          simp only [Nat.zero_mul, Nat.add_zero, List.getD_cons_zero] at s0 s1
          have hcut1 := hS.cut (i := 1) (by omega)
          have hrS := hS.room
          rw [Nat.one_mul, List.drop_succ_cons, List.drop_zero] at hcut1
          obtain ⟨x1, x2⟩ := x
          dsimp only at s0 s1 p2 p3
          have hl2 := eB.len
          have hl3 := hcut1.len
          have n1 : (1 : Int) ≤ (k : Int) := by omega
          have n2 : (0 : Int) < (k : Int) := by omega
          have n3 : (k : Int) ≤ (cS : Int) := by omega
          have n4 : (1 : Int) ≤ (cS : Int) := by omega
          have n5 : 0 < k := by omega
          have n6 : 1 ≤ k := by omega
          have n7 : 1 ≤ cS := by omega
          go_wp2_with fail
          go_cut [148] (fun s148 wx => s148 = .bool false ∧ I wx)
          case first =>
            rcases Nat.lt_or_ge 1 cS with hc1 | hc1
            · have hc2 : ¬ cS = 1 := by omega
              rw [if_neg hc2] at hcut1
              have eBd := eB.drew
              have hcd := hcut1.drew
              refine wp_region_still_tail 13 (by kernel_rfl) (by kernel_rfl) ?_
              simp only [List.take_succ_cons, List.take_zero, List.drop_succ_cons, List.drop_zero]
              change wpStill _ _ (World.drew _) _ _ _
              still_step
              still_step
              still_step
              still_step
              still_step
              still_step
              still_step
              still_step
              still_step
              still_step
              still_step
              still_step
              still_step
              refine wpStill_nil ?_
              change wpList _ _ _ _ _ (World.drew _)
              go_wp2_with fail
              refine (alike_is oB _ mB (k - 1) cB (cS - 1) Bq Bq true _ eBd hcd (by omega) (by omega) kB (by unfold maxLen at *; omega) (by simp)).mono ?_
              rintro e wy ⟨rfl, hBy⟩
              have Iy := st.out _ _ I14 (below_undrewD hBy (Nat.le_refl _))
              go_wp2_with fail
              go_meet
              case rel => exact ⟨rfl, Iy⟩
            · obtain rfl : cS = 1 := by omega
              obtain rfl : k = 1 := by omega
              rw [if_pos rfl, Nat.sub_self] at hcut1
              have eBd := eB.drew
              have hcd := hcut1.drew
              refine wp_region_still_tail 13 (by kernel_rfl) (by kernel_rfl) ?_
              simp only [List.take_succ_cons, List.take_zero, List.drop_succ_cons, List.drop_zero]
              change wpStill _ _ (World.drew _) _ _ _
              still_step
              still_step
              still_step
              still_step
              still_step
              still_step
              still_step
              still_step
              still_step
              still_step
              still_step
              still_step
              still_step
              refine wpStill_nil ?_
              change wpList _ _ _ _ _ (World.drew _)
              go_wp2_with fail
              refine (alike_is oB _ mB 0 cB 0 Bq Bq true _ eBd hcd (by omega) (by omega) kB (by unfold maxLen at *; omega) (by simp)).mono ?_
              rintro e wy ⟨rfl, hBy⟩
              have Iy := st.out _ _ I14 (below_undrewD hBy (Nat.le_refl _))
              go_wp2_with fail
              go_meet
              case rel => exact ⟨rfl, Iy⟩
          case rest =>
            obtain ⟨rfl, Iq⟩ := hcut
            go_wp2_with fail
            go_meet
            case rel => exact Iq
      case rest =>
        clear I14 p0 p1 p2 p3 eB hS
        have I15 := hcut
        clear hcut HQ HP
        have hN := fun W => rtime_any now W
        obtain ⟨tn, htn⟩ : ∃ tn, tn = timeB now := ⟨_, rfl⟩
        rw [← htn] at hN
        obtain ⟨⟨hl15, _, _, eC, eH⟩, _, _, _, BB⟩ := gt.out _ I15
        rcases HR.out with ⟨h1, h2, h3, h4⟩ | ⟨_, h1, h2, h3, h4⟩
        · obtain rfl : tn = false := by rw [htn]; exact h1.elim (fun h => absurd (h.symm.trans HB.out) (by simp)) (fun h => h)
          subst h2 h3 h4
          obtain rfl : mC = 0 := eC.len.symm
          obtain rfl : mH = 0 := eH.len.symm
          clear htn h1 eC eH I15 hl15
          go_wp2_with fail
          refine (hN _).mono ?_
          rintro e w16 ⟨rfl, rfl⟩
          go_wp2_with fail
          refine bodyPost_ret (results_tmp rfl _ _ _) rfl ?_
          exact ⟨rfl, BB⟩
        · obtain rfl : tn = true := by rw [htn]; exact h1
          have hU := until_is oa k cap l now
          clear htn h1
          subst h2 h3 h4
          go_wp2_with fail
          refine (hN _).mono ?_
          rintro e w16 ⟨rfl, rfl⟩
          go_wp2_with fail
          refine (hU _ hl15 (by omega) (sortD l) (sortI_is l).symm).mono ?_
          rintro e w17 ⟨⟨oE, cE, oF, cF, rfl, hE, hF, mE, mF⟩, B17⟩
          have eC7 := eC.below B17 (Nat.le_refl _)
          have eH7 := eH.below B17 (Nat.le_refl _)
          have BB7 := BB.trans (B17.mono BB.size)
          have l1 := eC7.len
          have l2 := eH7.len
          have l3 := both_length now (sortD l)
          rw [sortD_length, hkl, l1, l2] at l3
          rw [l2] at hE
          rw [l1] at hF
          clear eC eH BB B17 hl15 I15 hU hN
          go_wp2_with fail
          refine (same_is oH oE _ _ cH cE _ _ true _ eH7 hE (by omega) (by omega) (by simp)).mono ?_
          rintro e w18 ⟨rfl, B18⟩
          have eC8 := eC7.below B18 (Nat.le_refl _)
          have hF8 := hF.below B18 (Nat.le_refl _)
          have BB8 := BB7.trans (B18.mono BB7.size)
          go_wp2_with fail
          refine (alike_is oC oF _ _ cC cF _ _ true _ eC8 hF8 (by omega) (by omega) kC mF (by simp)).mono ?_
          rintro e w19 ⟨rfl, B19⟩
          have BB9 := BB8.trans (B19.mono BB8.size)
          go_wp2_with fail
          refine bodyPost_ret (results_tmp rfl _ _ _) rfl ?_
          exact ⟨rfl, BB9⟩
end dtells
end Go.Proofs.Yteomenkojhppfaa
