/-
  WireOrder, walked.
-/
import Derived.Test.YthncfcjkpcjkiaaGreatDoorBckW
import Derived.Test.YthncfcjkpcjkiaaGreatDoorTurnL
namespace Go.Proofs.YthncfcjkpcjkiaaGreatDoor.wireOrder
open Go.Proofs.YthncfcjkpcjkiaaGreatDoor Go.Proofs.YthncfcjkpcjkiaaGreatDoor.wireBack Go.RowKit Go.Shelf
set_option linter.unusedVariables false

theorem tl_next (hd : List UInt8) (L : List L2) (z : L2) : tx (hd ++ ((L ++ [z]).map labW).flatMap fun v => 32 :: v) = tx (hd ++ (L.map labW).flatMap fun v => 32 :: v) ++ (⟨#[32]⟩ ++ z.1 ++ ⟨#[61]⟩ ++ z.2) := by
  rw [List.map_append, List.flatMap_append, ← List.append_assoc, ← tx_append]
  congr 1
  rw [ByteArray.append_assoc, ByteArray.append_assoc, ← ByteArray.append_assoc (a := z.1), ← labW_text, show (⟨#[32]⟩ : ByteArray) = tx [32] from rfl, tx_append]
  simp
theorem order_parse {q f t : Int} {l : List L2} {ms : List M3} (hq : q = 0 ∨ q = 1) (hR : msgR (q, l, f, t, ms) = true) (T : Nat) :
    parseB ((if q = 1 then doneT else fireT) ++ ((turnL T l).map labW).flatMap fun v => 32 :: v) = ((q, l, f, t, ms), 0) := by
  have hr := hR
  rw [msgR_alert q (by omega)] at hr
  simp only [Bool.and_eq_true, decide_eq_true_eq] at hr
  obtain ⟨_, hr, rfl, rfl, hm⟩ := hr
  have hm : ms = [] := List.length_eq_zero_iff.1 hm
  subst hm
  obtain ⟨h3, hl⟩ := right_parts hr
  have hp := parse_labels q (turnL T l) hq (by rw [turnL_length]; exact h3) (fun x hx => hl x ((turnL_perm T l).mem_iff.1 hx))
  rw [sortF_perm (turnL_perm T l), sortF_right hr] at hp
  exact hp
set_option maxRecDepth 100000 in
set_option maxHeartbeats 12800000 in
theorem walk (q f t : Int) (oa : Option Addr) (n cap : Nat) (ls : List L2) (ob : Option Addr) (nb cb : Nat) (ms : List M3) (turn : Int) (w : World) (hL : Ls w oa n cap ls) (hM : Ms w ob nb cb ms) (hca : cap ≤ maxLen) (hcb : cb ≤ maxLen) (hT : Tabs w) :
    Calls Tryz.prog 6 #[.agg (msgC q (.slice oa n cap) f t (.slice ob nb cb)), .int .i64 turn] w fun e w' => e = .returned (.bool true) ∧ Below w.heap.size w w' := by
  have hn1 : n ≤ 9223372036854775807 := by have := hL.room; unfold maxLen at hca; omega
  have hn2 : nb ≤ 9223372036854775807 := by have := hM.room; unfold maxLen at hcb; omega
  clear hca hcb
  have VM : Vals (w.alloc (.cells (msgC q (.slice oa n cap) f t (.slice ob nb cb)) 27)) w.heap.size 27 (msgC q (.slice oa n cap) f t (.slice ob nb cb)) := Vals.new w _ _
  have B1 := below_alloc w (.cells (msgC q (.slice oa n cap) f t (.slice ob nb cb)) 27)
  have HF := few_any q f t oa n cap ob nb cb ls ms _ (hL.below B1 (Nat.le_refl _)) (hM.below B1 (Nat.le_refl _)) hn1 hn2
  clear hn1 hn2 hL hM
  obtain ⟨A, hA⟩ : ∃ A, A = w.heap.size := ⟨_, rfl⟩
  go_enter Tryz.func6, Tryz.ntmps6
  go_upto_region 1 with fail
  generalize w.alloc (.cells (msgC q (.slice oa n cap) f t (.slice ob nb cb)) 27) = w1 at *
  rw [← hA] at VM
  rw [← hA]
  have hs1 : A + 1 ≤ w1.heap.size := VM.lt
  have HA := Lib.hid hA
  clear hA
  have m0 : w1.cell? ⟨A, 0, none⟩ = some (.int .i64 q) := VM.cell 0
  have m1 : w1.cell? ⟨A, 1, none⟩ = some (.slice oa n cap) := VM.cell 1
  have m2 : w1.cell? ⟨A, 2, none⟩ = some (.int .i64 f) := VM.cell 2
  have m3 : w1.cell? ⟨A, 3, none⟩ = some (.int .i64 t) := VM.cell 3
  have m4 : w1.cell? ⟨A, 4, none⟩ = some (.slice ob nb cb) := VM.cell 4
  go_wp2_with fail
  refine HF.mono ?_
  rintro e wo ⟨⟨pa, n1, c1, pb, n2, c2, rfl, hL1, hM1, hnA, hnB⟩, Bf⟩
  have VM2 := VM.keep Bf (Nat.le_refl _)
  have B2 := B1.trans (Bf.mono B1.size)
  clear HF VM B1 m0 m1 m2 m3 m4
  have hR := cut1_of (q := q) (f := f) (t := t) (Nat.le_of_eq HA.out.symm) VM2 hL1 hM1 (fun g o e => Nat.le_trans hs1 (hnA g o e)) (fun g o e => Nat.le_trans hs1 (hnB g o e)) B2
  have m0 : wo.cell? ⟨A, 0, none⟩ = some (.int .i64 q) := VM2.cell 0
  have m1 : wo.cell? ⟨A, 1, none⟩ = some (.slice oa n cap) := VM2.cell 1
  have m2 : wo.cell? ⟨A, 2, none⟩ = some (.int .i64 f) := VM2.cell 2
  have m3 : wo.cell? ⟨A, 3, none⟩ = some (.int .i64 t) := VM2.cell 3
  have m4 : wo.cell? ⟨A, 4, none⟩ = some (.slice ob nb cb) := VM2.cell 4
  have f0 := VM2.free 0
  have f1 := VM2.free 1
  have f2 := VM2.free 2
  have f3 := VM2.free 3
  have f4 := VM2.free 4
  clear hL1 hM1 hnA hnB B2 VM2 Bf
  go_upto_region 2 with fail
  generalize ((((wo.setCell ⟨A, 0, none⟩ (.int .i64 q)).setCell ⟨A, 1, none⟩ (.slice pa n1 c1)).setCell ⟨A, 2, none⟩ (.int .i64 f)).setCell ⟨A, 3, none⟩ (.int .i64 t)).setCell ⟨A, 4, none⟩ (.slice pb n2 c2) = wc at *
  clear m0 m1 m2 m3 m4 f0 f1 f2 f3 f4
  obtain ⟨pa, n1, c1, pb, n2, c2, VM, hL, hM, B⟩ := hR
  have hT1 := hT.below B (Nat.le_refl _)
  have h5 := few5_len ls
  have h6 := few6_len ms
  have hl5 := hL.len
  have hl6 := hM.len
  clear hT
  generalize few5 ls = l at *
  generalize few6 ms = m at *
  obtain ⟨S, E, hSE, HS⟩ := told_print (msgR (q, l, f, t, m)) (tx (printB (q, l, f, t, m)))
  have HP := print_any q f t pa n1 c1 pb n2 c2 l m wc hL hM (by omega) (by omega) hT1
  rw [hSE] at HP
  clear hSE
  have m0 : wc.cell? ⟨A, 0, none⟩ = some (.int .i64 q) := VM.cell 0
  have m1 : wc.cell? ⟨A, 1, none⟩ = some (.slice pa n1 c1) := VM.cell 1
  have m2 : wc.cell? ⟨A, 2, none⟩ = some (.int .i64 f) := VM.cell 2
  have m3 : wc.cell? ⟨A, 3, none⟩ = some (.int .i64 t) := VM.cell 3
  have m4 : wc.cell? ⟨A, 4, none⟩ = some (.slice pb n2 c2) := VM.cell 4
  obtain ⟨T, hTe, hTT⟩ := turn3 turn
  go_wp2_with fail
  refine HP.mono ?_
  rintro e w2 ⟨rfl, B2⟩
  have VM2 := VM.keep B2 (Nat.le_refl _)
  have hL2 := hL.below B2 (Nat.le_refl _)
  have hM2 := hM.below B2 (Nat.le_refl _)
  have hT2 := hT1.below B2 (Nat.le_refl _)
  have Bw2 := B.trans (B2.mono B.size)
  clear HP VM hL hM hT1 B2 B m0 m1 m2 m3 m4
  have m0 : w2.cell? ⟨A, 0, none⟩ = some (.int .i64 q) := VM2.cell 0
  have m1 : w2.cell? ⟨A, 1, none⟩ = some (.slice pa n1 c1) := VM2.cell 1
  have m2 : w2.cell? ⟨A, 2, none⟩ = some (.int .i64 f) := VM2.cell 2
  have m3 : w2.cell? ⟨A, 3, none⟩ = some (.int .i64 t) := VM2.cell 3
  have m4 : w2.cell? ⟨A, 4, none⟩ = some (.slice pb n2 c2) := VM2.cell 4
  have HAL := alive_any w2 hT2
  cases hR : msgR (q, l, f, t, m) with
  | false =>
    rw [hR] at HS
    obtain ⟨rfl, rfl⟩ := HS.out.2 rfl
    clear hR HS hL2 hM2 hT2 VM2 hTe
    go_wp2_with fail
    refine HAL.mono ?_
    rintro e w3 ⟨rfl, B3⟩
    go_wp2_with fail
    go_ret
    exact ⟨rfl, Bw2.trans (B3.mono Bw2.size)⟩
  | true =>
    rw [hR] at HS
    obtain ⟨hS, rfl⟩ := HS.out.1 rfl
    rcases msgR_parts hR with ⟨rfl, _⟩ | ⟨hq, hr⟩
    · clear hR HS hS hL2 hM2 hT2 VM2 hTe
      go_wp2_with fail
      refine HAL.mono ?_
      rintro e w3 ⟨rfl, B3⟩
      go_wp2_with fail
      go_ret
      exact ⟨rfl, Bw2.trans (B3.mono Bw2.size)⟩
    · have hpz := print_size hR
      have hpp := parse_print hR
      have hop := order_parse hq hR T
      obtain ⟨h3, hSh, _⟩ := right_short hr
      have HSh := Lib.hid hSh
      have HQ := fun w5 (B5 : Below w2.heap.size w2 w5) => parse_any S w5 (by rw [hS, tx_size]; omega) (hT2.below B5 (Nat.le_refl _))
      rw [show bs S = printB (q, l, f, t, m) from by rw [hS]; exact tx_data _, hpp] at HQ
      have hd4 : (if q = 1 then doneT else fireT).length = 4 := by split <;> rfl
      have HO := Lib.hid hop
      clear hR hpz hpp HS hS hr hSh hop HAL
      rcases hq with rfl | rfl
      · skip
        rw [if_neg (by decide)] at HO hd4
        have hst : tx fireT = ⟨#[102, 105, 114, 101]⟩ := rfl
        obtain ⟨hd, hhd⟩ : ∃ hd, Hid (hd = fireT) := ⟨_, rfl⟩
        rw [← hhd.out] at HO hd4 hst
        clear hhd
        have hn3 : n1 ≤ 3 := by omega
        have HT0 : Hid (tx (hd ++ (((turnL T l).take 0).map labW).flatMap fun v => 32 :: v) = tx hd) := by show _ = _; simp
        rw [hst] at HT0
        have hsz0 : (tx hd).size = 4 := by rw [tx_size]; exact hd4
        rw [hst] at hsz0
        clear hst
        go_wp2_with fail
        go_loopw [7, 37] (fun s7 s37 wr => ∃ (k : Nat) (z : ByteArray), k ≤ n1 ∧ s37 = .int .i64 k ∧ s7 = .string z ∧ Hid (tx (hd ++ (((turnL T l).take k).map labW).flatMap fun v => 32 :: v) = z) ∧ z.size ≤ 4 + 30 * k ∧ Below w2.heap.size w2 wr) (fun _ s37 _ => n1 - (intOf s37).toNat)
        case atStart => exact ⟨0, _, Nat.zero_le _, rfl, rfl, HT0, by rw [hsz0]; omega, Below.refl _ _⟩
        case round =>
          obtain ⟨k, z, hk, rfl, rfl, HZ, hzk, hB⟩ := hrel
          clear HT0 hsz0 m0 m1 m2 m3 m4
          have VMr := VM2.keep hB (Nat.le_refl _)
          by_cases hlt : k < n1
          · have hqm : (k + T) % n1 < n1 := Nat.mod_lt _ (by omega)
            have hroom := hL2.room
            obtain ⟨g, o, rfl, p0, p1⟩ := (hL2.below hB (Nat.le_refl _)).cell (n1 - 1 - (k + T) % n1) (by omega)
            have HX := Lib.hid (turnL_take T l n1 k hl5 hlt)
            have HS1 := HSh.out (n1 - 1 - (k + T) % n1) (by omega)
            have hq1 : ((k : Int) + (T : Int)).tmod (n1 : Int) = (((k + T) % n1 : Nat) : Int) := by rw [Int.tmod_eq_emod_of_nonneg (by omega), Int.natCast_emod, Int.natCast_add]
            have hq2 : ((k : Int) + (T : Int)) % (n1 : Int) = (((k + T) % n1 : Nat) : Int) := by rw [Int.natCast_emod, Int.natCast_add]
            generalize (k + T) % n1 = x at *
            obtain ⟨y, hy⟩ : ∃ y : Nat, y = n1 - 1 - x := ⟨_, rfl⟩
            rw [← hy] at HX p0 p1 HS1
            have hyz : (n1 : Int) - 1 - (x : Int) = (y : Int) := by omega
            have hym : y < n1 := by omega
            have hyM : (y : Int) < (n1 : Int) := by omega
            have hm0 : ((n1 : Int) == 0) = false := by simp; omega
            have b1 : wr.cell? ⟨A, 1, none⟩ = some (.slice (some ⟨g, o, none⟩) n1 c1) := VMr.cell 1
            clear hy
            have HN := Lib.hid (tl_next hd ((turnL T l).take k) (l.getD y zL))
            rw [← HX.out, HZ.out] at HN
            generalize l.getD y zL = v at *
            obtain ⟨s, u⟩ := v
            dsimp only at p0 p1 HN HS1
            have a1 := keepR (below_alloc wr (.cells #[.string ⟨#[]⟩, .string ⟨#[]⟩] 52)) b1
            have q0 := keepR (below_alloc wr (.cells #[.string ⟨#[]⟩, .string ⟨#[]⟩] 52)) p0
            have q1 := keepR (below_alloc wr (.cells #[.string ⟨#[]⟩, .string ⟨#[]⟩] 52)) p1
            have hBs := hB.size
            clear hL2 hM2 VMr VM2 HQ HO HSh HX HZ hT2
            go_upto_region 12 with fail
            go_region
            have hBa := (hB.alloc hBs (.cells #[.string s, .string u] 52)).drew
            have e0 : (wr.alloc (.cells #[.string s, .string u] 52)).drew.cell? ⟨wr.heap.size, 0, none⟩ = some (.string s) := by
              have := (Vals.new wr 52 #[.string s, .string u]).cell 0
              exact this
            have e1 : (wr.alloc (.cells #[.string s, .string u] 52)).drew.cell? ⟨wr.heap.size, 1, none⟩ = some (.string u) := by
              have := (Vals.new wr 52 #[.string s, .string u]).cell 1
              exact this
            generalize (wr.alloc (.cells #[.string s, .string u] 52)).drew = w7 at *
            generalize wr.heap.size = D at *
            have s1 : (⟨#[32]⟩ : ByteArray).size = 1 := rfl
            have s2 : (⟨#[61]⟩ : ByteArray).size = 1 := rfl
            have sa : ((⟨#[32]⟩ : ByteArray) ++ s).size = 1 + s.size := by rw [ByteArray.size_append]; rfl
            have sb : ((⟨#[32]⟩ : ByteArray) ++ s ++ ⟨#[61]⟩).size = 1 + s.size + 1 := by rw [ByteArray.size_append, sa]; rfl
            have sc : ((⟨#[32]⟩ : ByteArray) ++ s ++ ⟨#[61]⟩ ++ u).size = 1 + s.size + 1 + u.size := by rw [ByteArray.size_append, sb]
            obtain ⟨HS2, HS3⟩ := HS1
            clear hB a1 q0 q1 b1 p0 p1 hBs
            go_wp2_with fail
            go_roundw
            case rel => exact ⟨k + 1, _, by omega, by go_num, rfl, HN, by rw [ByteArray.size_append, sc]; omega, hBa⟩
            case measure => simp [intOf]; omega
          · obtain rfl : k = n1 := by omega
            have HE : Hid (bs z = hd ++ ((turnL T l).map labW).flatMap fun v => 32 :: v) := by
              show _ = _
              rw [← HZ.out, List.take_of_length_le (by rw [turnL_length, hl5]; exact Nat.le_refl _)]
              exact tx_data _
            have HP := parse_any z wr (by omega) (hT2.below hB (Nat.le_refl _))
            rw [HE.out, HO.out] at HP
            have Bwr := Bw2.trans (hB.mono Bw2.size)
            have hLr := hL2.below hB (Nat.le_refl _)
            have hMr := hM2.below hB (Nat.le_refl _)
            have HQ2 := fun w5 (B5 : Below wr.heap.size wr w5) => HQ w5 (hB.trans (B5.mono hB.size))
            have HAL := fun w5 (B5 : Below wr.heap.size wr w5) => alive_any w5 ((hT2.below hB (Nat.le_refl _)).below B5 (Nat.le_refl _))
            clear HQ HE HO HZ hL2 hM2 VM2 hT2 hB
            go_wp2_with fail
            refine HP.mono ?_
            rintro e w3 ⟨⟨oc, nc, cc, od, nd, cd, rfl, hL3, hM3⟩, B3⟩
            dsimp only at hL3 hM3
            dsimp only
            have hnl := hL3.len
            have hnm := hM3.len
            have VB := Vals.new w3 27 (msgC 0 (.slice oc nc cc) f t (.slice od nd cd))
            have Ba := below_alloc w3 (.cells (msgC 0 (.slice oc nc cc) f t (.slice od nd cd)) 27)
            have B4 := B3.trans (Ba.mono B3.size)
            have hL4 := hL3.below Ba (Nat.le_refl _)
            have hM4 := hM3.below Ba (Nat.le_refl _)
            have HQ4 := HQ2 _ B4
            clear HP hL3 hM3 B3 Ba HQ2
            go_upto_region 16 with fail
            generalize w3.alloc (.cells (msgC 0 (.slice oc nc cc) f t (.slice od nd cd)) 27) = w4 at *
            generalize w3.heap.size = G at *
            go_wp2_with fail
            refine HQ4.mono ?_
            rintro e w5 ⟨⟨oe, ne, ce, og, ng, cg, rfl, hL5, hM5⟩, B5⟩
            dsimp only at hL5 hM5
            dsimp only
            have VD := Vals.new w5 27 (msgC 0 (.slice oe ne ce) f t (.slice og ng cg))
            have Ba := below_alloc w5 (.cells (msgC 0 (.slice oe ne ce) f t (.slice og ng cg)) 27)
            have B46 := B5.trans (Ba.mono B5.size)
            have B6 := B4.trans (B46.mono B4.size)
            have VB6 := VB.keep B46 (Nat.le_refl _)
            have hL6 := hL5.below Ba (Nat.le_refl _)
            have hM6 := hM5.below Ba (Nat.le_refl _)
            have hLb := hL4.below B46 (Nat.le_refl _)
            have hMb := hM4.below B46 (Nat.le_refl _)
            have HA6 := HAL _ B6
            clear HQ4 hL5 hM5 B5 Ba B4 B46 VB hL4 hM4 HAL
            go_upto_region 17 with fail
            generalize w5.alloc (.cells (msgC 0 (.slice oe ne ce) f t (.slice og ng cg)) 27) = w6 at *
            generalize w5.heap.size = D at *
            have HS1 := fun w8 (B8 : Below w6.heap.size w6 w8) => refSame_any 0 f t oc nc cc od nd cd oe ne ce og ng cg l m w8 (hLb.below B8 (Nat.le_refl _)) (hMb.below B8 (Nat.le_refl _)) (hL6.below B8 (Nat.le_refl _)) (hM6.below B8 (Nat.le_refl _)) (by omega) (by omega)
            have HS2 := fun w8 (B8 : Below w6.heap.size w6 w8) => refSame_any 0 f t oc nc cc od nd cd pa k c1 pb n2 c2 l m w8 (hLb.below B8 (Nat.le_refl _)) (hMb.below B8 (Nat.le_refl _)) (hLr.below (B6.trans (B8.mono B6.size)) (Nat.le_refl _)) (hMr.below (B6.trans (B8.mono B6.size)) (Nat.le_refl _)) (by omega) (by omega)
            have VM6 := VMr.keep B6 (Nat.le_refl _)
            clear VMr hLb hMb hL6 hM6 hLr hMr
            go_wp2_with fail
            refine HA6.mono ?_
            rintro e w7 ⟨rfl, B7⟩
            have VB7 := VB6.keep B7 (Nat.le_refl _)
            have VD7 := VD.keep B7 (Nat.le_refl _)
            have VM7 := VM6.keep B7 (Nat.le_refl _)
            have H7 := HS1 _ B7
            clear HA6 VB6 VD VM6 HS1
            have b0 : w7.cell? ⟨G, 0, none⟩ = some (.int .i64 0) := VB7.cell 0
            have b1 : w7.cell? ⟨G, 1, none⟩ = some (.slice oc nc cc) := VB7.cell 1
            have b2 : w7.cell? ⟨G, 2, none⟩ = some (.int .i64 f) := VB7.cell 2
            have b3 : w7.cell? ⟨G, 3, none⟩ = some (.int .i64 t) := VB7.cell 3
            have b4 : w7.cell? ⟨G, 4, none⟩ = some (.slice od nd cd) := VB7.cell 4
            have d0 : w7.cell? ⟨D, 0, none⟩ = some (.int .i64 0) := VD7.cell 0
            have d1 : w7.cell? ⟨D, 1, none⟩ = some (.slice oe ne ce) := VD7.cell 1
            have d2 : w7.cell? ⟨D, 2, none⟩ = some (.int .i64 f) := VD7.cell 2
            have d3 : w7.cell? ⟨D, 3, none⟩ = some (.int .i64 t) := VD7.cell 3
            have d4 : w7.cell? ⟨D, 4, none⟩ = some (.slice og ng cg) := VD7.cell 4
            go_wp2_with fail
            refine H7.mono ?_
            rintro e w8 ⟨rfl, B8⟩
            have VB8 := VB7.keep B8 (Nat.le_refl _)
            have VM8 := VM7.keep B8 (Nat.le_refl _)
            have B68 := B7.trans (B8.mono B7.size)
            have H8 := HS2 _ B68
            clear H7 VB7 VD7 VM7 HS2 b0 b1 b2 b3 b4 d0 d1 d2 d3 d4 B7 B8
            have b0 : w8.cell? ⟨G, 0, none⟩ = some (.int .i64 0) := VB8.cell 0
            have b1 : w8.cell? ⟨G, 1, none⟩ = some (.slice oc nc cc) := VB8.cell 1
            have b2 : w8.cell? ⟨G, 2, none⟩ = some (.int .i64 f) := VB8.cell 2
            have b3 : w8.cell? ⟨G, 3, none⟩ = some (.int .i64 t) := VB8.cell 3
            have b4 : w8.cell? ⟨G, 4, none⟩ = some (.slice od nd cd) := VB8.cell 4
            have m0 : w8.cell? ⟨A, 0, none⟩ = some (.int .i64 0) := VM8.cell 0
            have m1 : w8.cell? ⟨A, 1, none⟩ = some (.slice pa k c1) := VM8.cell 1
            have m2 : w8.cell? ⟨A, 2, none⟩ = some (.int .i64 f) := VM8.cell 2
            have m3 : w8.cell? ⟨A, 3, none⟩ = some (.int .i64 t) := VM8.cell 3
            have m4 : w8.cell? ⟨A, 4, none⟩ = some (.slice pb n2 c2) := VM8.cell 4
            go_wp2_with fail
            refine H8.mono ?_
            rintro e w9 ⟨rfl, B9⟩
            have B69 := B68.trans (B9.mono B68.size)
            have Br9 := B6.trans (B69.mono B6.size)
            have Bw9 := Bwr.trans (Br9.mono Bwr.size)
            clear H8 VB8 VM8 b0 b1 b2 b3 b4 m0 m1 m2 m3 m4
            go_wp2_with fail
            go_ret
            exact ⟨rfl, Bw9⟩
      · skip
        rw [if_pos rfl] at HO hd4
        have hst : tx doneT = ⟨#[100, 111, 110, 101]⟩ := rfl
        obtain ⟨hd, hhd⟩ : ∃ hd, Hid (hd = doneT) := ⟨_, rfl⟩
        rw [← hhd.out] at HO hd4 hst
        clear hhd
        have hn3 : n1 ≤ 3 := by omega
        have HT0 : Hid (tx (hd ++ (((turnL T l).take 0).map labW).flatMap fun v => 32 :: v) = tx hd) := by show _ = _; simp
        rw [hst] at HT0
        have hsz0 : (tx hd).size = 4 := by rw [tx_size]; exact hd4
        rw [hst] at hsz0
        clear hst
        go_wp2_with fail
        go_loopw [7, 37] (fun s7 s37 wr => ∃ (k : Nat) (z : ByteArray), k ≤ n1 ∧ s37 = .int .i64 k ∧ s7 = .string z ∧ Hid (tx (hd ++ (((turnL T l).take k).map labW).flatMap fun v => 32 :: v) = z) ∧ z.size ≤ 4 + 30 * k ∧ Below w2.heap.size w2 wr) (fun _ s37 _ => n1 - (intOf s37).toNat)
        case atStart => exact ⟨0, _, Nat.zero_le _, rfl, rfl, HT0, by rw [hsz0]; omega, Below.refl _ _⟩
        case round =>
          obtain ⟨k, z, hk, rfl, rfl, HZ, hzk, hB⟩ := hrel
          clear HT0 hsz0 m0 m1 m2 m3 m4
          have VMr := VM2.keep hB (Nat.le_refl _)
          by_cases hlt : k < n1
          · have hqm : (k + T) % n1 < n1 := Nat.mod_lt _ (by omega)
            have hroom := hL2.room
            obtain ⟨g, o, rfl, p0, p1⟩ := (hL2.below hB (Nat.le_refl _)).cell (n1 - 1 - (k + T) % n1) (by omega)
            have HX := Lib.hid (turnL_take T l n1 k hl5 hlt)
            have HS1 := HSh.out (n1 - 1 - (k + T) % n1) (by omega)
            have hq1 : ((k : Int) + (T : Int)).tmod (n1 : Int) = (((k + T) % n1 : Nat) : Int) := by rw [Int.tmod_eq_emod_of_nonneg (by omega), Int.natCast_emod, Int.natCast_add]
            have hq2 : ((k : Int) + (T : Int)) % (n1 : Int) = (((k + T) % n1 : Nat) : Int) := by rw [Int.natCast_emod, Int.natCast_add]
            generalize (k + T) % n1 = x at *
            obtain ⟨y, hy⟩ : ∃ y : Nat, y = n1 - 1 - x := ⟨_, rfl⟩
            rw [← hy] at HX p0 p1 HS1
            have hyz : (n1 : Int) - 1 - (x : Int) = (y : Int) := by omega
            have hym : y < n1 := by omega
            have hyM : (y : Int) < (n1 : Int) := by omega
            have hm0 : ((n1 : Int) == 0) = false := by simp; omega
            have b1 : wr.cell? ⟨A, 1, none⟩ = some (.slice (some ⟨g, o, none⟩) n1 c1) := VMr.cell 1
            clear hy
            have HN := Lib.hid (tl_next hd ((turnL T l).take k) (l.getD y zL))
            rw [← HX.out, HZ.out] at HN
            generalize l.getD y zL = v at *
            obtain ⟨s, u⟩ := v
            dsimp only at p0 p1 HN HS1
            have a1 := keepR (below_alloc wr (.cells #[.string ⟨#[]⟩, .string ⟨#[]⟩] 52)) b1
            have q0 := keepR (below_alloc wr (.cells #[.string ⟨#[]⟩, .string ⟨#[]⟩] 52)) p0
            have q1 := keepR (below_alloc wr (.cells #[.string ⟨#[]⟩, .string ⟨#[]⟩] 52)) p1
            have hBs := hB.size
            clear hL2 hM2 VMr VM2 HQ HO HSh HX HZ hT2
            go_upto_region 12 with fail
            go_region
            have hBa := (hB.alloc hBs (.cells #[.string s, .string u] 52)).drew
            have e0 : (wr.alloc (.cells #[.string s, .string u] 52)).drew.cell? ⟨wr.heap.size, 0, none⟩ = some (.string s) := by
              have := (Vals.new wr 52 #[.string s, .string u]).cell 0
              exact this
            have e1 : (wr.alloc (.cells #[.string s, .string u] 52)).drew.cell? ⟨wr.heap.size, 1, none⟩ = some (.string u) := by
              have := (Vals.new wr 52 #[.string s, .string u]).cell 1
              exact this
            generalize (wr.alloc (.cells #[.string s, .string u] 52)).drew = w7 at *
            generalize wr.heap.size = D at *
            have s1 : (⟨#[32]⟩ : ByteArray).size = 1 := rfl
            have s2 : (⟨#[61]⟩ : ByteArray).size = 1 := rfl
            have sa : ((⟨#[32]⟩ : ByteArray) ++ s).size = 1 + s.size := by rw [ByteArray.size_append]; rfl
            have sb : ((⟨#[32]⟩ : ByteArray) ++ s ++ ⟨#[61]⟩).size = 1 + s.size + 1 := by rw [ByteArray.size_append, sa]; rfl
            have sc : ((⟨#[32]⟩ : ByteArray) ++ s ++ ⟨#[61]⟩ ++ u).size = 1 + s.size + 1 + u.size := by rw [ByteArray.size_append, sb]
            obtain ⟨HS2, HS3⟩ := HS1
            clear hB a1 q0 q1 b1 p0 p1 hBs
            go_wp2_with fail
            go_roundw
            case rel => exact ⟨k + 1, _, by omega, by go_num, rfl, HN, by rw [ByteArray.size_append, sc]; omega, hBa⟩
            case measure => simp [intOf]; omega
          · obtain rfl : k = n1 := by omega
            have HE : Hid (bs z = hd ++ ((turnL T l).map labW).flatMap fun v => 32 :: v) := by
              show _ = _
              rw [← HZ.out, List.take_of_length_le (by rw [turnL_length, hl5]; exact Nat.le_refl _)]
              exact tx_data _
            have HP := parse_any z wr (by omega) (hT2.below hB (Nat.le_refl _))
            rw [HE.out, HO.out] at HP
            have Bwr := Bw2.trans (hB.mono Bw2.size)
            have hLr := hL2.below hB (Nat.le_refl _)
            have hMr := hM2.below hB (Nat.le_refl _)
            have HQ2 := fun w5 (B5 : Below wr.heap.size wr w5) => HQ w5 (hB.trans (B5.mono hB.size))
            have HAL := fun w5 (B5 : Below wr.heap.size wr w5) => alive_any w5 ((hT2.below hB (Nat.le_refl _)).below B5 (Nat.le_refl _))
            clear HQ HE HO HZ hL2 hM2 VM2 hT2 hB
            go_wp2_with fail
            refine HP.mono ?_
            rintro e w3 ⟨⟨oc, nc, cc, od, nd, cd, rfl, hL3, hM3⟩, B3⟩
            dsimp only at hL3 hM3
            dsimp only
            have hnl := hL3.len
            have hnm := hM3.len
            have VB := Vals.new w3 27 (msgC 1 (.slice oc nc cc) f t (.slice od nd cd))
            have Ba := below_alloc w3 (.cells (msgC 1 (.slice oc nc cc) f t (.slice od nd cd)) 27)
            have B4 := B3.trans (Ba.mono B3.size)
            have hL4 := hL3.below Ba (Nat.le_refl _)
            have hM4 := hM3.below Ba (Nat.le_refl _)
            have HQ4 := HQ2 _ B4
            clear HP hL3 hM3 B3 Ba HQ2
            go_upto_region 16 with fail
            generalize w3.alloc (.cells (msgC 1 (.slice oc nc cc) f t (.slice od nd cd)) 27) = w4 at *
            generalize w3.heap.size = G at *
            go_wp2_with fail
            refine HQ4.mono ?_
            rintro e w5 ⟨⟨oe, ne, ce, og, ng, cg, rfl, hL5, hM5⟩, B5⟩
            dsimp only at hL5 hM5
            dsimp only
            have VD := Vals.new w5 27 (msgC 1 (.slice oe ne ce) f t (.slice og ng cg))
            have Ba := below_alloc w5 (.cells (msgC 1 (.slice oe ne ce) f t (.slice og ng cg)) 27)
            have B46 := B5.trans (Ba.mono B5.size)
            have B6 := B4.trans (B46.mono B4.size)
            have VB6 := VB.keep B46 (Nat.le_refl _)
            have hL6 := hL5.below Ba (Nat.le_refl _)
            have hM6 := hM5.below Ba (Nat.le_refl _)
            have hLb := hL4.below B46 (Nat.le_refl _)
            have hMb := hM4.below B46 (Nat.le_refl _)
            have HA6 := HAL _ B6
            clear HQ4 hL5 hM5 B5 Ba B4 B46 VB hL4 hM4 HAL
            go_upto_region 17 with fail
            generalize w5.alloc (.cells (msgC 1 (.slice oe ne ce) f t (.slice og ng cg)) 27) = w6 at *
            generalize w5.heap.size = D at *
            have HS1 := fun w8 (B8 : Below w6.heap.size w6 w8) => refSame_any 1 f t oc nc cc od nd cd oe ne ce og ng cg l m w8 (hLb.below B8 (Nat.le_refl _)) (hMb.below B8 (Nat.le_refl _)) (hL6.below B8 (Nat.le_refl _)) (hM6.below B8 (Nat.le_refl _)) (by omega) (by omega)
            have HS2 := fun w8 (B8 : Below w6.heap.size w6 w8) => refSame_any 1 f t oc nc cc od nd cd pa k c1 pb n2 c2 l m w8 (hLb.below B8 (Nat.le_refl _)) (hMb.below B8 (Nat.le_refl _)) (hLr.below (B6.trans (B8.mono B6.size)) (Nat.le_refl _)) (hMr.below (B6.trans (B8.mono B6.size)) (Nat.le_refl _)) (by omega) (by omega)
            have VM6 := VMr.keep B6 (Nat.le_refl _)
            clear VMr hLb hMb hL6 hM6 hLr hMr
            go_wp2_with fail
            refine HA6.mono ?_
            rintro e w7 ⟨rfl, B7⟩
            have VB7 := VB6.keep B7 (Nat.le_refl _)
            have VD7 := VD.keep B7 (Nat.le_refl _)
            have VM7 := VM6.keep B7 (Nat.le_refl _)
            have H7 := HS1 _ B7
            clear HA6 VB6 VD VM6 HS1
            have b0 : w7.cell? ⟨G, 0, none⟩ = some (.int .i64 1) := VB7.cell 0
            have b1 : w7.cell? ⟨G, 1, none⟩ = some (.slice oc nc cc) := VB7.cell 1
            have b2 : w7.cell? ⟨G, 2, none⟩ = some (.int .i64 f) := VB7.cell 2
            have b3 : w7.cell? ⟨G, 3, none⟩ = some (.int .i64 t) := VB7.cell 3
            have b4 : w7.cell? ⟨G, 4, none⟩ = some (.slice od nd cd) := VB7.cell 4
            have d0 : w7.cell? ⟨D, 0, none⟩ = some (.int .i64 1) := VD7.cell 0
            have d1 : w7.cell? ⟨D, 1, none⟩ = some (.slice oe ne ce) := VD7.cell 1
            have d2 : w7.cell? ⟨D, 2, none⟩ = some (.int .i64 f) := VD7.cell 2
            have d3 : w7.cell? ⟨D, 3, none⟩ = some (.int .i64 t) := VD7.cell 3
            have d4 : w7.cell? ⟨D, 4, none⟩ = some (.slice og ng cg) := VD7.cell 4
            go_wp2_with fail
            refine H7.mono ?_
            rintro e w8 ⟨rfl, B8⟩
            have VB8 := VB7.keep B8 (Nat.le_refl _)
            have VM8 := VM7.keep B8 (Nat.le_refl _)
            have B68 := B7.trans (B8.mono B7.size)
            have H8 := HS2 _ B68
            clear H7 VB7 VD7 VM7 HS2 b0 b1 b2 b3 b4 d0 d1 d2 d3 d4 B7 B8
            have b0 : w8.cell? ⟨G, 0, none⟩ = some (.int .i64 1) := VB8.cell 0
            have b1 : w8.cell? ⟨G, 1, none⟩ = some (.slice oc nc cc) := VB8.cell 1
            have b2 : w8.cell? ⟨G, 2, none⟩ = some (.int .i64 f) := VB8.cell 2
            have b3 : w8.cell? ⟨G, 3, none⟩ = some (.int .i64 t) := VB8.cell 3
            have b4 : w8.cell? ⟨G, 4, none⟩ = some (.slice od nd cd) := VB8.cell 4
            have m0 : w8.cell? ⟨A, 0, none⟩ = some (.int .i64 1) := VM8.cell 0
            have m1 : w8.cell? ⟨A, 1, none⟩ = some (.slice pa k c1) := VM8.cell 1
            have m2 : w8.cell? ⟨A, 2, none⟩ = some (.int .i64 f) := VM8.cell 2
            have m3 : w8.cell? ⟨A, 3, none⟩ = some (.int .i64 t) := VM8.cell 3
            have m4 : w8.cell? ⟨A, 4, none⟩ = some (.slice pb n2 c2) := VM8.cell 4
            go_wp2_with fail
            refine H8.mono ?_
            rintro e w9 ⟨rfl, B9⟩
            have B69 := B68.trans (B9.mono B68.size)
            have Br9 := B6.trans (B69.mono B6.size)
            have Bw9 := Bwr.trans (Br9.mono Bwr.size)
            clear H8 VB8 VM8 b0 b1 b2 b3 b4 m0 m1 m2 m3 m4
            go_wp2_with fail
            go_ret
            exact ⟨rfl, Bw9⟩
end Go.Proofs.YthncfcjkpcjkiaaGreatDoor.wireOrder
