/-
  WireParses, walked.
-/
import Derived.Test.YthncfcjkpcjkiaaGreatDoorAlv12
import Derived.Test.YthncfcjkpcjkiaaGreatDoorWirI
import Derived.Test.YthncfcjkpcjkiaaGreatDoorWirH
namespace Go.Proofs.YthncfcjkpcjkiaaGreatDoor.wireParses
open Go.Proofs.YthncfcjkpcjkiaaGreatDoor Go.RowKit Go.Shelf
set_option linter.unusedVariables false

theorem min_of (n k : Nat) : ∃ m : Nat, m = min n k ∧ min (n : Int) (k : Int) = (m : Int) ∧ m ≤ n ∧ m ≤ k := ⟨min n k, rfl, by omega, Nat.min_le_left _ _, Nat.min_le_right _ _⟩
theorem parse_sizes {y : List UInt8} {k f t er : Int} {l : List L2} {m : List M3} (hm : parseB y = ((k, l, f, t, m), er)) : l.length ≤ 1000 ∧ m.length ≤ 1000 := by
  by_cases he : er = 0
  · subst he
    have hR := parse_right hm
    unfold msgR at hR
    dsimp only at hR
    split at hR
    · unfold hushR at hR
      simp only [Bool.and_eq_true, decide_eq_true_eq] at hR
      omega
    · simp only [Bool.and_eq_true, decide_eq_true_eq] at hR
      have := (right_parts hR.1.1.1.2).1
      omega
  · have hz := parse_not (l := y) (by rw [hm]; exact he)
    rw [hm] at hz
    dsimp only at hz
    obtain ⟨rfl, rfl, rfl, rfl, rfl⟩ : k = 0 ∧ l = [] ∧ f = 0 ∧ t = 0 ∧ m = [] := by
      have := hz
      simpa using this
    simp
theorem told_ask {e : Ending} {l : List UInt8} (h : AskOut e l) : ∃ (q : Int) (a b : ByteArray) (g : Int), e = .returned (.tuple #[aggM (q, a, b), .int .i64 g]) ∧ Hid ((∀ x, askedB l = some x → (q, a, b) = x ∧ g = 0) ∧ (askedB l = none → q = 0 ∧ a = ⟨#[]⟩ ∧ b = ⟨#[]⟩ ∧ g = 13)) := by
  rcases h with ⟨⟨q, a, b⟩, h1, rfl⟩ | ⟨h1, rfl⟩
  · exact ⟨q, a, b, 0, rfl, fun x hx => (by rw [h1] at hx; exact ⟨Option.some.inj hx, rfl⟩), fun hx => (by rw [h1] at hx; cases hx)⟩
  · exact ⟨0, ⟨#[]⟩, ⟨#[]⟩, 13, rfl, fun x hx => (by rw [h1] at hx; cases hx), fun _ => ⟨rfl, rfl, rfl, rfl⟩⟩
theorem told_mat {e : Ending} {l : List UInt8} (h : MatOut e l) : ∃ (q : Int) (a b : ByteArray) (g : Bool), e = .returned (.tuple #[aggM (q, a, b), .bool g]) ∧ Hid ((∀ x, askedB l = some x → (q, a, b) = x ∧ g = true) ∧ (askedB l = none → g = false)) := by
  rcases h with ⟨⟨q, a, b⟩, h1, rfl⟩ | ⟨h1, ⟨q, a, b⟩, rfl⟩
  · exact ⟨q, a, b, true, rfl, fun x hx => (by rw [h1] at hx; exact ⟨Option.some.inj hx, rfl⟩), fun hx => (by rw [h1] at hx; cases hx)⟩
  · exact ⟨q, a, b, false, rfl, fun x hx => (by rw [h1] at hx; cases hx), fun _ => rfl⟩
set_option maxRecDepth 100000 in
set_option maxHeartbeats 12800000 in
theorem walk (s u : ByteArray) (w : World) (hs : s.size ≤ maxLen) (hu : u.size ≤ maxLen) (hT : Tabs w) :
    Calls Tryz.prog 3 #[.string s, .string u] w fun e w' => e = .returned (.bool true) ∧ Below w.heap.size w w' := by
  have hs2 : s.size ≤ 9223372036854775807 := by unfold maxLen at hs; omega
  have hu2 : u.size ≤ 9223372036854775807 := by unfold maxLen at hu; omega
  clear hs hu
  obtain ⟨p, hp, ep, hps, hp2⟩ := min_of s.size 220
  change min (s.size : Int) 220 = (p : Int) at ep
  have hz1 : (s.extract 0 p).size ≤ 1000 := by rw [ByteArray.size_extract]; omega
  obtain ⟨r, hr, er, hrs, hr2⟩ := min_of u.size 30
  change min (u.size : Int) 30 = (r : Int) at er
  have hz2 : (u.extract 0 r).size ≤ 1000 := by rw [ByteArray.size_extract]; omega
  clear hp hr
  have B0 := (Below.refl w.heap.size w).drew
  have hT0 := hT.below B0 (Nat.le_refl _)
  clear hT
  go_enter Tryz.func3, Tryz.ntmps3
  go_upto_region 1 with fail
  go_region
  clear ep er hps hrs hp2 hr2 hs2 hu2
  generalize w.drew = w1 at *
  generalize s.extract 0 p = y at *
  generalize u.extract 0 r = z at *
  have HP := parse_any y w1 hz1 hT0
  have HQ := fun w => refParse_any y w hz1
  have HA := fun w => asked_word z w (by omega)
  have HB := fun w => refAsked_any z w hz2
  obtain ⟨⟨⟨k, l, f, t, m⟩, er⟩, hm⟩ : ∃ M, M = parseB (bs y) := ⟨_, rfl⟩
  have hzz := parse_sizes hm.symm
  rw [← hm] at HP
  simp only [← hm] at HQ
  clear hm hz1 hz2
  go_wp2_with fail
  refine HP.mono ?_
  rintro e w2 ⟨⟨oc, nc, cc, od, nd, cd, rfl, hL2, hM2⟩, B2⟩
  dsimp only at hL2 hM2
  dsimp only
  obtain ⟨hl1, hm1⟩ := hzz
  have hnc : nc ≤ 1000 := hL2.len ▸ hl1
  have hnd : nd ≤ 1000 := hM2.len ▸ hm1
  clear hl1 hm1
  have VA := Vals.new w2 27 (msgC k (.slice oc nc cc) f t (.slice od nd cd))
  have Ba := below_alloc w2 (.cells (msgC k (.slice oc nc cc) f t (.slice od nd cd)) 27)
  have B13 := B2.trans (Ba.mono B2.size)
  have B3 := B0.trans (B13.mono B0.size)
  have hL3 := hL2.below Ba (Nat.le_refl _)
  have hM3 := hM2.below Ba (Nat.le_refl _)
  have hT3 := hT0.below B13 (Nat.le_refl _)
  clear HP hL2 hM2 B2 Ba B0 B13 hT0
  go_upto_region 3 with fail
  generalize w2.alloc (.cells (msgC k (.slice oc nc cc) f t (.slice od nd cd)) 27) = w3 at *
  generalize w2.heap.size = A at *
  go_wp2_with fail
  refine (HQ _).mono ?_
  rintro e w4 ⟨⟨oe, ne, ce, og, ng, cg, rfl, hL4, hM4⟩, B4⟩
  dsimp only at hL4 hM4
  dsimp only
  have VB := Vals.new w4 27 (msgC k (.slice oe ne ce) f t (.slice og ng cg))
  have Ba := below_alloc w4 (.cells (msgC k (.slice oe ne ce) f t (.slice og ng cg)) 27)
  have B35 := B4.trans (Ba.mono B4.size)
  have B5 := B3.trans (B35.mono B3.size)
  have VA5 := VA.keep B35 (Nat.le_refl _)
  have hL5 := hL3.below B35 (Nat.le_refl _)
  have hM5 := hM3.below B35 (Nat.le_refl _)
  have hT5 := hT3.below B35 (Nat.le_refl _)
  have hL5' := hL4.below Ba (Nat.le_refl _)
  have hM5' := hM4.below Ba (Nat.le_refl _)
  clear HQ hL4 hM4 B4 Ba B35 B3 hT3 hL3 hM3 VA
  go_upto_region 4 with fail
  generalize w4.alloc (.cells (msgC k (.slice oe ne ce) f t (.slice og ng cg)) 27) = w5 at *
  generalize w4.heap.size = B at *
  have HS := fun w6 (B6 : Below w5.heap.size w5 w6) => refSame_any k f t oc nc cc od nd cd oe ne ce og ng cg l m w6 (hL5.below B6 (Nat.le_refl _)) (hM5.below B6 (Nat.le_refl _)) (hL5'.below B6 (Nat.le_refl _)) (hM5'.below B6 (Nat.le_refl _)) (by omega) (by omega)
  clear hL5 hM5 hL5' hM5'
  go_wp2_with fail
  refine (HA _).mono ?_
  rintro e w6 ⟨hAO, B6⟩
  obtain ⟨xq, xa, xb, g, rfl, HX⟩ := told_ask hAO
  clear hAO HA
  have VX := Vals.new w6 32 #[.int .i64 xq, .string xa, .string xb]
  have B57 := B6.trans ((below_alloc w6 (.cells #[.int .i64 xq, .string xa, .string xb] 32)).mono B6.size)
  clear B6
  dsimp only [aggM]
  go_upto_region 5 with fail
  generalize w6.alloc (.cells #[.int .i64 xq, .string xa, .string xb] 32) = w7 at *
  generalize w6.heap.size = C at *
  go_wp2_with fail
  refine (HB _).mono ?_
  rintro e w8 ⟨hMO, B8⟩
  obtain ⟨nq, na, nb2, is, rfl, HN⟩ := told_mat hMO
  clear hMO HB
  have VN := Vals.new w8 32 #[.int .i64 nq, .string na, .string nb2]
  have B79 := B8.trans ((below_alloc w8 (.cells #[.int .i64 nq, .string na, .string nb2] 32)).mono B8.size)
  have VX9 := VX.keep B79 (Nat.le_refl _)
  have B59 := B57.trans (B79.mono B57.size)
  clear B8 B79 B57 VX
  dsimp only [aggM]
  go_upto_region 6 with fail
  generalize w8.alloc (.cells #[.int .i64 nq, .string na, .string nb2] 32) = w9 at *
  generalize w8.heap.size = D at *
  have VA9 := VA5.keep B59 (Nat.le_refl _)
  have VB9 := VB.keep B59 (Nat.le_refl _)
  have HS9 := HS _ B59
  have hT9 := hT5.below B59 (Nat.le_refl _)
  have B9 := B5.trans (B59.mono B5.size)
  clear HS VA5 VB B59 B5 hT5
  have HAL := fun w (B : Below w9.heap.size w9 w) => alive_any w (hT9.below B (Nat.le_refl _))
  have m0 : w9.cell? ⟨A, 0, none⟩ = some (.int .i64 k) := VA9.cell 0
  have m1 : w9.cell? ⟨A, 1, none⟩ = some (.slice oc nc cc) := VA9.cell 1
  have m2 : w9.cell? ⟨A, 2, none⟩ = some (.int .i64 f) := VA9.cell 2
  have m3 : w9.cell? ⟨A, 3, none⟩ = some (.int .i64 t) := VA9.cell 3
  have m4 : w9.cell? ⟨A, 4, none⟩ = some (.slice od nd cd) := VA9.cell 4
  have b0 : w9.cell? ⟨B, 0, none⟩ = some (.int .i64 k) := VB9.cell 0
  have b1 : w9.cell? ⟨B, 1, none⟩ = some (.slice oe ne ce) := VB9.cell 1
  have b2 : w9.cell? ⟨B, 2, none⟩ = some (.int .i64 f) := VB9.cell 2
  have b3 : w9.cell? ⟨B, 3, none⟩ = some (.int .i64 t) := VB9.cell 3
  have b4 : w9.cell? ⟨B, 4, none⟩ = some (.slice og ng cg) := VB9.cell 4
  have he : (er != er) = false := by simp
  go_wp2_with fail
  refine HS9.mono ?_
  rintro e w10 ⟨rfl, B10⟩
  clear m0 m1 m2 m3 m4 b0 b1 b2 b3 b4 VA9 VB9 HS9
  go_wp2_with fail
  refine (HAL _ B10).mono ?_
  rintro e w11 ⟨rfl, B11⟩
  have B911 := B10.trans (B11.mono B10.size)
  have VX11 := VX9.keep B911 (Nat.le_refl _)
  have VN11 := VN.keep B911 (Nat.le_refl _)
  have Bw := B9.trans (B911.mono B9.size)
  clear HAL B10 B11 B911 VX9 VN B9 hT9
  cases ha : askedB (bs z) with
  | none =>
    obtain ⟨rfl, rfl, rfl, rfl⟩ := HX.out.2 ha
    obtain rfl := HN.out.2 ha
    have x0 : w11.cell? ⟨C, 0, none⟩ = some (.int .i64 0) := VX11.cell 0
    have x1 : w11.cell? ⟨C, 1, none⟩ = some (.string ⟨#[]⟩) := VX11.cell 1
    have x2 : w11.cell? ⟨C, 2, none⟩ = some (.string ⟨#[]⟩) := VX11.cell 2
    clear HX HN ha VX11 VN11
    go_wp2_with fail
    go_ret
    exact ⟨rfl, Bw⟩
  | some v =>
    obtain ⟨e1, rfl⟩ := HX.out.1 _ ha
    obtain ⟨e2, rfl⟩ := HN.out.1 _ ha
    rw [← e2] at e1
    obtain ⟨rfl, rfl, rfl⟩ : xq = nq ∧ xa = na ∧ xb = nb2 := ⟨(Prod.mk.inj e1).1, (Prod.mk.inj (Prod.mk.inj e1).2).1, (Prod.mk.inj (Prod.mk.inj e1).2).2⟩
    have x0 : w11.cell? ⟨C, 0, none⟩ = some (.int .i64 xq) := VX11.cell 0
    have x1 : w11.cell? ⟨C, 1, none⟩ = some (.string xa) := VX11.cell 1
    have x2 : w11.cell? ⟨C, 2, none⟩ = some (.string xb) := VX11.cell 2
    have n0 : w11.cell? ⟨D, 0, none⟩ = some (.int .i64 xq) := VN11.cell 0
    have n1 : w11.cell? ⟨D, 1, none⟩ = some (.string xa) := VN11.cell 1
    have n2 : w11.cell? ⟨D, 2, none⟩ = some (.string xb) := VN11.cell 2
    clear HX HN ha e1 e2 VX11 VN11
    go_wp2_with fail
    go_ret
    exact ⟨rfl, Bw⟩
end Go.Proofs.YthncfcjkpcjkiaaGreatDoor.wireParses
