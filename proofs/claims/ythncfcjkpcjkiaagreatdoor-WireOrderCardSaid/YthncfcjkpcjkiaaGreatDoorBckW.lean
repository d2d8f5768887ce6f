/-
  WireBack, walked.
-/
import Derived.Test.YthncfcjkpcjkiaaGreatDoorFew12
import Derived.Test.YthncfcjkpcjkiaaGreatDoorAlv12
import Derived.Test.YthncfcjkpcjkiaaGreatDoorWirJ
import Derived.Test.YthncfcjkpcjkiaaGreatDoorWirI
namespace Go.Proofs.YthncfcjkpcjkiaaGreatDoor.wireBack
open Go.Proofs.YthncfcjkpcjkiaaGreatDoor Go.RowKit Go.Shelf
set_option linter.unusedVariables false

theorem print_size {m : MsgL} (h : msgR m = true) : (printB m).length ≤ 200 := by
  have hp := parse_print h
  unfold parseB at hp
  split at hp
  · exact absurd (Prod.mk.inj hp).2 (by decide)
  · omega
/-- what two calls told, as letters -/
theorem told_print (R : Bool) (P : ByteArray) : ∃ (S : ByteArray) (E : Int), (if R = true then Value.tuple #[.string P, .int .i64 0] else Value.tuple #[.string ⟨#[]⟩, .int .i64 1]) = Value.tuple #[.string S, .int .i64 E] ∧ Hid ((R = true → S = P ∧ E = 0) ∧ (R = false → S = ⟨#[]⟩ ∧ E = 1)) := by
  cases R
  · exact ⟨⟨#[]⟩, 1, rfl, fun h => (by cases h), fun _ => ⟨rfl, rfl⟩⟩
  · exact ⟨P, 0, rfl, fun _ => ⟨rfl, rfl⟩, fun h => (by cases h)⟩
/-- behind the first statement: a message cut short, in its box -/
def Cut1 (w wx : World) (A : Nat) (q f t : Int) (ls : List L2) (ms : List M3) : Prop := ∃ (pa : Option Addr) (n1 c1 : Nat) (pb : Option Addr) (n2 c2 : Nat),
  Vals wx A 27 (msgC q (.slice pa n1 c1) f t (.slice pb n2 c2)) ∧ Ls wx pa n1 c1 (few5 ls) ∧ Ms wx pb n2 c2 (few6 ms) ∧ Below w.heap.size w wx
theorem cut1_of {w wo : World} {A : Nat} {q f t : Int} {ls : List L2} {ms : List M3} {pa : Option Addr} {n1 c1 : Nat} {pb : Option Addr} {n2 c2 : Nat} {m0 m1 m2 m3 m4 : Value} (hA : w.heap.size ≤ A)
    (VM : Vals wo A 27 #[m0, m1, m2, m3, m4]) (hL : Ls wo pa n1 c1 (few5 ls)) (hM : Ms wo pb n2 c2 (few6 ms))
    (hnA : ∀ g o, pa = some ⟨g, o, none⟩ → A + 1 ≤ g) (hnB : ∀ g o, pb = some ⟨g, o, none⟩ → A + 1 ≤ g) (B : Below w.heap.size w wo) :
    Cut1 w (((((wo.setCell ⟨A, 0, none⟩ (.int .i64 q)).setCell ⟨A, 1, none⟩ (.slice pa n1 c1)).setCell ⟨A, 2, none⟩ (.int .i64 f)).setCell ⟨A, 3, none⟩ (.int .i64 t)).setCell ⟨A, 4, none⟩ (.slice pb n2 c2)) A q f t ls ms := by
  have V5 := VM.five (.int .i64 q) (.slice pa n1 c1) (.int .i64 f) (.int .i64 t) (.slice pb n2 c2)
  have hB5 := below_five B hA (.int .i64 q) (.slice pa n1 c1) (.int .i64 f) (.int .i64 t) (.slice pb n2 c2)
  have h5 := five_other wo A (.int .i64 q) (.slice pa n1 c1) (.int .i64 f) (.int .i64 t) (.slice pb n2 c2)
  refine ⟨pa, n1, c1, pb, n2, c2, V5, hL.other (S := fun g => g = A) (fun g o e => by have := hnA g o e; omega) h5, hM.other (S := fun g => g = A) (fun g o e => by have := hnB g o e; omega) h5, hB5⟩
set_option maxRecDepth 100000 in
set_option maxHeartbeats 12800000 in
theorem walk (q f t : Int) (oa : Option Addr) (n cap : Nat) (ls : List L2) (ob : Option Addr) (nb cb : Nat) (ms : List M3) (s : ByteArray) (w : World) (hL : Ls w oa n cap ls) (hM : Ms w ob nb cb ms) (hca : cap ≤ maxLen) (hcb : cb ≤ maxLen) (hs : s.size ≤ maxLen) (hT : Tabs w) :
    Calls Tryz.prog 5 #[.agg (msgC q (.slice oa n cap) f t (.slice ob nb cb)), .string s] w fun e w' => e = .returned (.bool true) ∧ Below w.heap.size w w' := by
  have hn1 : n ≤ 9223372036854775807 := by have := hL.room; unfold maxLen at hca; omega
  have hn2 : nb ≤ 9223372036854775807 := by have := hM.room; unfold maxLen at hcb; omega
  have hs2 : s.size ≤ 9223372036854775807 := by unfold maxLen at hs; omega
  clear hca hcb hs
  have VM : Vals (w.alloc (.cells (msgC q (.slice oa n cap) f t (.slice ob nb cb)) 27)) w.heap.size 27 (msgC q (.slice oa n cap) f t (.slice ob nb cb)) := Vals.new w _ _
  have B1 := below_alloc w (.cells (msgC q (.slice oa n cap) f t (.slice ob nb cb)) 27)
  have HF := fun w1 (B : Below w.heap.size w w1) => few_any q f t oa n cap ob nb cb ls ms w1 (hL.below B (Nat.le_refl _)) (hM.below B (Nat.le_refl _)) hn1 hn2
  obtain ⟨p, hp, ep, hps, hp2⟩ := min_of s.size 220
  change min (s.size : Int) 220 = (p : Int) at ep
  have hz1 : (s.extract 0 p).size ≤ 1000 := by rw [ByteArray.size_extract]; omega
  clear hn1 hn2 hL hM hp
  obtain ⟨A, hA⟩ : ∃ A, A = w.heap.size := ⟨_, rfl⟩
  go_enter Tryz.func5, Tryz.ntmps5
  go_upto_region 1 with fail
  generalize w.alloc (.cells (msgC q (.slice oa n cap) f t (.slice ob nb cb)) 27) = w1 at *
  rw [← hA] at VM
  rw [← hA]
  have hs1 : A + 1 ≤ w1.heap.size := VM.lt
  have HA := Lib.hid hA
  clear hA
  have m0 : w1.cell? ⟨A, 0, none⟩ = some (.int .i64 q) := VM.cell 0
  have m1 : w1.cell? ⟨A, 1, none⟩ = some (.slice oa n cap) := VM.cell 1
  have m2 : w1.cell? ⟨A, 2, none⟩ = some (.int .i64 f) := VM.cell 2
  have m3 : w1.cell? ⟨A, 3, none⟩ = some (.int .i64 t) := VM.cell 3
  have m4 : w1.cell? ⟨A, 4, none⟩ = some (.slice ob nb cb) := VM.cell 4
  go_cut [1, 15, 16, 17, 18, 19, 20, 21] (fun s1 _ _ _ _ _ _ _ wx => s1 = .string (s.extract 0 p) ∧ Cut1 w wx A q f t ls ms)
  case first =>
    go_region_with (first
      | (go_at_call 13; refine (HF _ (by first | exact B1 | exact B1.drew)).mono ?_; rintro e wo ⟨⟨pa, n1, c1, pb, n2, c2, rfl, hL1, hM1, hnA, hnB⟩, Bf⟩; have VM := VM.keep (w := w1.drew) Bf (Nat.le_refl _); have B1 := B1.drew.trans (Bf.mono B1.drew.size); have m0 : wo.cell? ⟨A, 0, none⟩ = some (.int .i64 q) := VM.cell 0; have m1 : wo.cell? ⟨A, 1, none⟩ = some (.slice oa n cap) := VM.cell 1; have m2 : wo.cell? ⟨A, 2, none⟩ = some (.int .i64 f) := VM.cell 2; have m3 : wo.cell? ⟨A, 3, none⟩ = some (.int .i64 t) := VM.cell 3; have m4 : wo.cell? ⟨A, 4, none⟩ = some (.slice ob nb cb) := VM.cell 4; have f0 := VM.free 0; have f1 := VM.free 1; have f2 := VM.free 2; have f3 := VM.free 3; have f4 := VM.free 4))
    all_goals
      have hR := cut1_of (q := q) (f := f) (t := t) (Nat.le_of_eq HA.out.symm) VM hL1 hM1 (fun g o e => Nat.le_trans hs1 (hnA g o e)) (fun g o e => Nat.le_trans hs1 (hnB g o e)) B1
      clear VM hL1 hM1 hnA hnB B1 m0 m1 m2 m3 m4 f0 f1 f2 f3 f4
      go_wp2_with fail
      go_meet
      case rel => exact ⟨rfl, hR⟩
  case rest =>
    clear VM m0 m1 m2 m3 m4 HF B1 ep hps hp2 hs2
    obtain ⟨rfl, pa, n1, c1, pb, n2, c2, VM, hL, hM, B⟩ := hcut
    generalize s.extract 0 p = y at *
    have hT1 := hT.below B (Nat.le_refl _)
    have h5 := few5_len ls
    have h6 := few6_len ms
    have hl5 := hL.len
    have hl6 := hM.len
    clear hT
    generalize few5 ls = l at *
    generalize few6 ms = m at *
    obtain ⟨S, E, hSE, HS⟩ := told_print (msgR (q, l, f, t, m)) (tx (printB (q, l, f, t, m)))
    have HP := print_any q f t pa n1 c1 pb n2 c2 l m wc hL hM (by omega) (by omega) hT1
    rw [hSE] at HP
    clear hSE
    have m0 : wc.cell? ⟨A, 0, none⟩ = some (.int .i64 q) := VM.cell 0
    have m1 : wc.cell? ⟨A, 1, none⟩ = some (.slice pa n1 c1) := VM.cell 1
    have m2 : wc.cell? ⟨A, 2, none⟩ = some (.int .i64 f) := VM.cell 2
    have m3 : wc.cell? ⟨A, 3, none⟩ = some (.int .i64 t) := VM.cell 3
    have m4 : wc.cell? ⟨A, 4, none⟩ = some (.slice pb n2 c2) := VM.cell 4
    go_wp2_with fail
    refine HP.mono ?_
    rintro e w2 ⟨rfl, B2⟩
    have VM2 := VM.keep B2 (Nat.le_refl _)
    have hL2 := hL.below B2 (Nat.le_refl _)
    have hM2 := hM.below B2 (Nat.le_refl _)
    have hT2 := hT1.below B2 (Nat.le_refl _)
    have Bw2 := B.trans (B2.mono B.size)
    clear HP VM hL hM hT1 B2 B m0 m1 m2 m3 m4
    go_upto_if 28 with fail
    go_cut [7, 8, 29, 30, 31, 32, 33, 34, 35, 36, 37, 38, 39, 40, 41] (fun _ _ _ _ _ _ _ _ _ _ _ _ _ _ _ wx => Below w2.heap.size w2 wx)
    case first =>
      cases hR : msgR (q, l, f, t, m) with
      | false =>
        rw [hR] at HS
        obtain ⟨rfl, rfl⟩ := HS.out.2 rfl
        clear hR HS hL2 hM2 hT2 Bw2 VM2
        go_wp2_with fail
        go_meet
        case rel => exact Below.refl _ _
      | true =>
        have hpz := print_size hR
        have hpp := parse_print hR
        rw [hR] at HS
        obtain ⟨hS, rfl⟩ := HS.out.1 rfl
        have HQ := parse_any S w2 (by rw [hS, tx_size]; omega) hT2
        rw [hS, show bs (tx (printB (q, l, f, t, m))) = printB (q, l, f, t, m) from tx_data _, hpp, ← hS] at HQ
        clear hR HS hpz hpp hT2 hS
        go_wp2_with fail
        refine HQ.mono ?_
        rintro e w3 ⟨⟨oc, nc, cc, od, nd, cd, rfl, hL3, hM3⟩, B3⟩
        dsimp only at hL3 hM3
        dsimp only
        have VB := Vals.new w3 27 (msgC q (.slice oc nc cc) f t (.slice od nd cd))
        have Ba := below_alloc w3 (.cells (msgC q (.slice oc nc cc) f t (.slice od nd cd)) 27)
        have B4 := B3.trans (Ba.mono B3.size)
        have VM4 := VM2.keep B4 (Nat.le_refl _)
        have HW := refSame_any q f t oc nc cc od nd cd pa n1 c1 pb n2 c2 l m _ (hL3.below Ba (Nat.le_refl _)) (hM3.below Ba (Nat.le_refl _)) (hL2.below B4 (Nat.le_refl _)) (hM2.below B4 (Nat.le_refl _)) (by have := hL3.len; omega) (by have := hM3.len; omega)
        clear HQ hL3 hM3 hL2 hM2 B3 Ba VM2
        go_upto_region 5 with fail
        generalize w3.alloc (.cells (msgC q (.slice oc nc cc) f t (.slice od nd cd)) 27) = w4 at *
        generalize w3.heap.size = G at *
        have b0 : w4.cell? ⟨G, 0, none⟩ = some (.int .i64 q) := VB.cell 0
        have b1 : w4.cell? ⟨G, 1, none⟩ = some (.slice oc nc cc) := VB.cell 1
        have b2 : w4.cell? ⟨G, 2, none⟩ = some (.int .i64 f) := VB.cell 2
        have b3 : w4.cell? ⟨G, 3, none⟩ = some (.int .i64 t) := VB.cell 3
        have b4 : w4.cell? ⟨G, 4, none⟩ = some (.slice od nd cd) := VB.cell 4
        have m0 : w4.cell? ⟨A, 0, none⟩ = some (.int .i64 q) := VM4.cell 0
        have m1 : w4.cell? ⟨A, 1, none⟩ = some (.slice pa n1 c1) := VM4.cell 1
        have m2 : w4.cell? ⟨A, 2, none⟩ = some (.int .i64 f) := VM4.cell 2
        have m3 : w4.cell? ⟨A, 3, none⟩ = some (.int .i64 t) := VM4.cell 3
        have m4 : w4.cell? ⟨A, 4, none⟩ = some (.slice pb n2 c2) := VM4.cell 4
        go_wp2_with fail
        refine HW.mono ?_
        rintro e w5 ⟨rfl, B5⟩
        have B6 := B4.trans (B5.mono B4.size)
        clear HW VB VM4 b0 b1 b2 b3 b4 m0 m1 m2 m3 m4
        go_wp2_with fail
        go_meet
        case rel => exact B6
    case rest =>
      have Bw3 := Bw2.trans (hcut.mono Bw2.size)
      have hT3 := hT2.below hcut (Nat.le_refl _)
      clear VM2 hL2 hM2 hT2 hcut Bw2 HS h5 h6 hl5 hl6
      have HQ := parse_any y wc hz1 hT3
      cases hm : parseB (bs y) with
      | mk mm er =>
      rw [hm] at HQ
      obtain ⟨k2, l2, f2, t2, m2⟩ := mm
      by_cases he : er = 0
      · subst he
        have hR := parse_right hm
        have hpz := print_size hR
        have hpp := parse_print hR
        clear hm
        have hln : l2.length ≤ 1000 ∧ m2.length ≤ 1000 := by
          rcases msgR_parts hR with ⟨rfl, hh⟩ | ⟨hq, hr⟩
          · have h4 := (hush_short hh).2.2.1
            rw [msgR_hush] at hR
            simp only [Bool.and_eq_true, decide_eq_true_eq] at hR
            omega
          · have h3 := (right_short hr).1
            rw [msgR_alert k2 (by omega)] at hR
            simp only [Bool.and_eq_true, decide_eq_true_eq] at hR
            omega
        go_wp2_with fail
        refine HQ.mono ?_
        rintro e w3 ⟨⟨oc, nc, cc, od, nd, cd, rfl, hL3, hM3⟩, B3⟩
        dsimp only at hL3 hM3
        dsimp only
        have hnl := hL3.len
        have hnm := hM3.len
        have VB := Vals.new w3 27 (msgC k2 (.slice oc nc cc) f2 t2 (.slice od nd cd))
        have Ba := below_alloc w3 (.cells (msgC k2 (.slice oc nc cc) f2 t2 (.slice od nd cd)) 27)
        have B4 := B3.trans (Ba.mono B3.size)
        have hL4 := hL3.below Ba (Nat.le_refl _)
        have hM4 := hM3.below Ba (Nat.le_refl _)
        have hT4 := hT3.below B4 (Nat.le_refl _)
        have Bw4 := Bw3.trans (B4.mono Bw3.size)
        clear HQ hL3 hM3 B3 Ba B4 hT3 Bw3
        go_upto_region 8 with fail
        generalize w3.alloc (.cells (msgC k2 (.slice oc nc cc) f2 t2 (.slice od nd cd)) 27) = w4 at *
        generalize w3.heap.size = G at *
        have HP := print_any k2 f2 t2 oc nc cc od nd cd l2 m2 w4 hL4 hM4 (by omega) (by omega) hT4
        rw [hR, if_pos rfl] at HP
        obtain ⟨S2, hS2⟩ : ∃ S2, Hid (S2 = tx (printB (k2, l2, f2, t2, m2))) := ⟨_, rfl⟩
        rw [← hS2.out] at HP
        have HQ := fun w5 (B5 : Below w4.heap.size w4 w5) => parse_any S2 w5 (by rw [hS2.out, tx_size]; omega) (hT4.below B5 (Nat.le_refl _))
        rw [show bs S2 = printB (k2, l2, f2, t2, m2) from by rw [hS2.out]; exact tx_data _, hpp] at HQ
        have HAL := fun w5 (B5 : Below w4.heap.size w4 w5) => alive_any w5 (hT4.below B5 (Nat.le_refl _))
        have HRC := fun w5 (B5 : Below w4.heap.size w4 w5) => msg_right k2 f2 t2 oc nc cc od nd cd l2 m2 w5 (hL4.below B5 (Nat.le_refl _)) (hM4.below B5 (Nat.le_refl _)) (by omega) (by omega)
        rw [hR] at HRC
        clear hR hpz hpp hS2 hT4
        obtain ⟨hln, hmn⟩ := hln
        have hnc : nc ≤ 1000 := hnl ▸ hln
        have hnd : nd ≤ 1000 := hnm ▸ hmn
        clear hln hmn hnl hnm
        have b0 : w4.cell? ⟨G, 0, none⟩ = some (.int .i64 k2) := VB.cell 0
        have b1 : w4.cell? ⟨G, 1, none⟩ = some (.slice oc nc cc) := VB.cell 1
        have b2 : w4.cell? ⟨G, 2, none⟩ = some (.int .i64 f2) := VB.cell 2
        have b3 : w4.cell? ⟨G, 3, none⟩ = some (.int .i64 t2) := VB.cell 3
        have b4 : w4.cell? ⟨G, 4, none⟩ = some (.slice od nd cd) := VB.cell 4
        go_wp2_with fail
        refine HP.mono ?_
        rintro e w5 ⟨rfl, B5⟩
        have VB5 := VB.keep B5 (Nat.le_refl _)
        have HQ5 := HQ _ B5
        clear HP HQ VB b0 b1 b2 b3 b4
        go_wp2_with fail
        refine HQ5.mono ?_
        rintro e w6 ⟨⟨oe, ne, ce, og, ng, cg, rfl, hL6, hM6⟩, B6⟩
        dsimp only at hL6 hM6
        dsimp only
        have VD := Vals.new w6 27 (msgC k2 (.slice oe ne ce) f2 t2 (.slice og ng cg))
        have Ba := below_alloc w6 (.cells (msgC k2 (.slice oe ne ce) f2 t2 (.slice og ng cg)) 27)
        have B57 := B6.trans (Ba.mono B6.size)
        have VB7 := VB5.keep B57 (Nat.le_refl _)
        have B47 := B5.trans (B57.mono B5.size)
        have hL7 := hL6.below Ba (Nat.le_refl _)
        have hM7 := hM6.below Ba (Nat.le_refl _)
        clear HQ5 hL6 hM6 B6 Ba B57 VB5 B5
        go_upto_region 12 with fail
        generalize w6.alloc (.cells (msgC k2 (.slice oe ne ce) f2 t2 (.slice og ng cg)) 27) = w7 at *
        generalize w6.heap.size = D at *
        have HA7 := HAL _ B47
        have HS7 := fun w8 (B8 : Below w7.heap.size w7 w8) => refSame_any k2 f2 t2 oc nc cc od nd cd oe ne ce og ng cg l2 m2 w8 (hL4.below (B47.trans (B8.mono B47.size)) (Nat.le_refl _)) (hM4.below (B47.trans (B8.mono B47.size)) (Nat.le_refl _)) (hL7.below B8 (Nat.le_refl _)) (hM7.below B8 (Nat.le_refl _)) (by omega) (by omega)
        clear HAL hL7 hM7 hL4 hM4
        go_wp2_with fail
        refine HA7.mono ?_
        rintro e w8 ⟨rfl, B8⟩
        have VB8 := VB7.keep B8 (Nat.le_refl _)
        have VD8 := VD.keep B8 (Nat.le_refl _)
        have HR8 := HRC _ (B47.trans (B8.mono B47.size))
        clear HA7 VB7 VD HRC
        have b0 : w8.cell? ⟨G, 0, none⟩ = some (.int .i64 k2) := VB8.cell 0
        have b1 : w8.cell? ⟨G, 1, none⟩ = some (.slice oc nc cc) := VB8.cell 1
        have b2 : w8.cell? ⟨G, 2, none⟩ = some (.int .i64 f2) := VB8.cell 2
        have b3 : w8.cell? ⟨G, 3, none⟩ = some (.int .i64 t2) := VB8.cell 3
        have b4 : w8.cell? ⟨G, 4, none⟩ = some (.slice od nd cd) := VB8.cell 4
        go_wp2_with fail
        refine HR8.mono ?_
        rintro e w9 ⟨rfl, B9⟩
        have VB9 := VB8.keep B9 (Nat.le_refl _)
        have VD9 := VD8.keep B9 (Nat.le_refl _)
        have B79 := B8.trans (B9.mono B8.size)
        have HS9 := HS7 _ B79
        clear HR8 VB8 VD8 HS7 b0 b1 b2 b3 b4 B8 B9
        have b0 : w9.cell? ⟨G, 0, none⟩ = some (.int .i64 k2) := VB9.cell 0
        have b1 : w9.cell? ⟨G, 1, none⟩ = some (.slice oc nc cc) := VB9.cell 1
        have b2 : w9.cell? ⟨G, 2, none⟩ = some (.int .i64 f2) := VB9.cell 2
        have b3 : w9.cell? ⟨G, 3, none⟩ = some (.int .i64 t2) := VB9.cell 3
        have b4 : w9.cell? ⟨G, 4, none⟩ = some (.slice od nd cd) := VB9.cell 4
        have d0 : w9.cell? ⟨D, 0, none⟩ = some (.int .i64 k2) := VD9.cell 0
        have d1 : w9.cell? ⟨D, 1, none⟩ = some (.slice oe ne ce) := VD9.cell 1
        have d2 : w9.cell? ⟨D, 2, none⟩ = some (.int .i64 f2) := VD9.cell 2
        have d3 : w9.cell? ⟨D, 3, none⟩ = some (.int .i64 t2) := VD9.cell 3
        have d4 : w9.cell? ⟨D, 4, none⟩ = some (.slice og ng cg) := VD9.cell 4
        go_wp2_with fail
        refine HS9.mono ?_
        rintro e wz ⟨rfl, Bz⟩
        have B7z := B79.trans (Bz.mono B79.size)
        have B4z := B47.trans (B7z.mono B47.size)
        have Bwz := Bw4.trans (B4z.mono Bw4.size)
        clear HS9 VB9 VD9 b0 b1 b2 b3 b4 d0 d1 d2 d3 d4
        go_wp2_with fail
        go_ret
        exact ⟨rfl, Bwz⟩
      · have hz := parse_not (l := bs y) (by rw [hm]; exact he)
        rw [hm] at hz
        dsimp only at hz
        obtain ⟨rfl, rfl, rfl, rfl, rfl⟩ : k2 = 0 ∧ l2 = [] ∧ f2 = 0 ∧ t2 = 0 ∧ m2 = [] := by
          have := hz
          simpa using this
        have he2 : (er == 0) = false := by simp [he]
        clear hm hz
        go_wp2_with fail
        refine HQ.mono ?_
        rintro e w3 ⟨⟨oc, nc, cc, od, nd, cd, rfl, hL3, hM3⟩, B3⟩
        dsimp only at hL3 hM3
        dsimp only
        have hnl := hL3.len
        have hnm := hM3.len
        have VB := Vals.new w3 27 (msgC 0 (.slice oc nc cc) 0 0 (.slice od nd cd))
        have Ba := below_alloc w3 (.cells (msgC 0 (.slice oc nc cc) 0 0 (.slice od nd cd)) 27)
        have B4 := B3.trans (Ba.mono B3.size)
        have hL4 := hL3.below Ba (Nat.le_refl _)
        have hM4 := hM3.below Ba (Nat.le_refl _)
        have HA4 := alive_any _ (hT3.below B4 (Nat.le_refl _))
        have Bw4 := Bw3.trans (B4.mono Bw3.size)
        clear HQ hL3 hM3 B3 Ba B4 hT3 Bw3
        go_upto_region 8 with fail
        generalize w3.alloc (.cells (msgC 0 (.slice oc nc cc) 0 0 (.slice od nd cd)) 27) = w4 at *
        generalize w3.heap.size = G at *
        go_wp2_with fail
        refine HA4.mono ?_
        rintro e w5 ⟨rfl, B5⟩
        have VB5 := VB.keep B5 (Nat.le_refl _)
        have Bw5 := Bw4.trans (B5.mono Bw4.size)
        have HS5 := refSame_any 0 0 0 oc nc cc od nd cd none 0 0 none 0 0 [] [] w5 (hL4.below B5 (Nat.le_refl _)) (hM4.below B5 (Nat.le_refl _)) (Ls.nil _ _ _) (Ms.nil _ _ _) (by have e1 : nc = 0 := hnl.symm; omega) (by have e1 : nd = 0 := hnm.symm; omega)
        clear HA4 VB hL4 hM4 B5 Bw4
        have b0 : w5.cell? ⟨G, 0, none⟩ = some (.int .i64 0) := VB5.cell 0
        have b1 : w5.cell? ⟨G, 1, none⟩ = some (.slice oc nc cc) := VB5.cell 1
        have b2 : w5.cell? ⟨G, 2, none⟩ = some (.int .i64 0) := VB5.cell 2
        have b3 : w5.cell? ⟨G, 3, none⟩ = some (.int .i64 0) := VB5.cell 3
        have b4 : w5.cell? ⟨G, 4, none⟩ = some (.slice od nd cd) := VB5.cell 4
        go_wp2_with fail
        refine HS5.mono ?_
        rintro e w6 ⟨rfl, B6⟩
        have Bw6 := Bw5.trans (B6.mono Bw5.size)
        clear HS5 VB5 b0 b1 b2 b3 b4
        go_wp2_with fail
        go_ret
        exact ⟨rfl, Bw6⟩
end Go.Proofs.YthncfcjkpcjkiaaGreatDoor.wireBack
