/-
  The walk of StoreKeeps: of a new store, whatever is done, what is found on the disk is just what was written.
-/
import Derived.Test.YtmjbhmmcpjhmcaaKeepA
import Derived.Test.YtmjbhmmcpjhmcaaOpenFau
import Derived.Deep.DeepCutAuto
import Derived.Deep.CutBlock
namespace Go.Proofs.Ytmjbhmmcpjhmcaa.storeKeeps
open Go.RowKit
set_option linter.unusedVariables false
attribute [local go_sem ↓] Go.wp_at_zero Go.wp_at_succ

/-- what stands in memory meanwhile: the store, its records, the act -/
structure KI (w0 : World) (Bs : Nat) (oS : Option Addr) (nS cS : Nat) (S : St) (oh : Option Addr) (nh ch : Nat) (l : List ByteArray) (Ba : Nat) (ab : Obj) (w : World) : Prop where
  s : SVar w Bs oS nS cS S
  h : Rd w oh nh ch l
  a : w.heap[Ba]? = some ab
  below : Below w0.heap.size w0 w
theorem KI.stable (w0 : World) (Bs : Nat) (oS : Option Addr) (nS cS : Nat) (S : St) (oh : Option Addr) (nh ch : Nat) (l : List ByteArray) (Ba : Nat) (ab : Obj) : Stable (KI w0 Bs oS nS cS S oh nh ch l Ba ab) :=
  fun _ _ h hB => ⟨h.s.keep hB, h.h.below hB (Nat.le_refl _), keepB hB h.a, h.below.trans (hB.mono h.below.size)⟩
theorem KI.put {w0 : World} {Bs : Nat} {oS : Option Addr} {nS cS : Nat} {S : St} {oh : Option Addr} {nh ch : Nat} {l : List ByteArray} {Ba : Nat} {ab : Obj} {w : World} (h : KI w0 Bs oS nS cS S oh nh ch l Ba ab w) {B : Nat} {x0 : Option Addr} {y0 z0 : Nat} {g0 u0 t0 : Int} {d0 : Bool} (AN : SRow w B (.slice x0 y0 z0) g0 u0 t0 d0) (h1 : Bs ≠ B) (h2 : Ba ≠ B) (h3 : w0.heap.size ≤ B) (x : Value) (g u t : Int) (d : Bool) :
    KI w0 Bs oS nS cS S oh nh ch l Ba ab (put5 w B x g u t d) :=
  ⟨⟨h.s.row.aside h1 _ _ _ _ _, h.s.rd.put AN ⟨_, _, _, rfl⟩ _ _ _ _ _⟩, h.h.put AN ⟨_, _, _, rfl⟩ _ _ _ _ _, (put_other _ _ _ _ _ _ _ _ h2).trans h.a, put_below h.below h3 _ _ _ _ _⟩
theorem frd_takeK {w : World} {oa : Option Addr} {n cap : Nat} {fs : List (Int × Int)} (h : FRd w oa n cap fs) (k : Nat) (hk : k ≤ n) : FRd w oa k cap (fs.take k) := by
  refine ⟨by rw [List.length_take, h.len]; omega, Nat.le_trans hk h.room, fun i hi => ?_⟩
  obtain ⟨g, o, h1, h2, h3⟩ := h.cell i (by omega)
  have e : (fs.take k).getD i (0, 0) = fs.getD i (0, 0) := by rw [List.getD_eq_getElem?_getD, List.getD_eq_getElem?_getD, List.getElem?_take, if_pos hi]
  rw [e]
  exact ⟨g, o, h1, h2, h3⟩
theorem fix_all (fs : List (Int × Int)) : ∀ f ∈ fs.map fixF, faultB f = true := by
  intro f hf
  obtain ⟨q, _, rfl⟩ := List.mem_map.1 hf
  exact fix_ok q
set_option maxRecDepth 100000 in
set_option maxHeartbeats 12800000 in
theorem walk (size : Int) (oa : Option Addr) (n cap : Nat) (w : World) (hA : Acts w oa n cap) :
    Calls Try.prog 5 #[.int .i64 size, .slice oa n cap] w fun e w' => e = .returned (.bool true) ∧ Below w.heap.size w w' := by
  obtain ⟨ha1, ha2⟩ := tmod_b size 8 (by omega)
  obtain ⟨i0, hi, hz0, hz1, hz2⟩ := info_parts info9
  obtain ⟨j0, ji, jz0, jz1, jz2⟩ := info_parts infoFault
  have hcap := hA.most
  have hnc := hA.room
  unfold maxLen at hcap
  have hok : newOk (10 + 2 * (size.tmod 8 % 8)) = true := by rw [newOk_iff]; omega
  obtain ⟨e1, e2, H0⟩ := newS_holds hok
  have HN := Lib.hid (fun wx => new4_any (10 + 2 * (size.tmod 8 % 8)) wx)
  rw [e1] at HN
  have HH0 := Lib.hid H0
  clear e1 e2 H0 hok
  generalize newS (10 + 2 * (size.tmod 8 % 8)) = S0 at *
  obtain ⟨mA, hmA⟩ : ∃ mA, mA = min n 40 := ⟨_, rfl⟩
  have hmA1 : mA ≤ n := by omega
  have hmA2 : mA ≤ 40 := by omega
  have HMA := Lib.hid hmA
  clear hmA
  go_enter Try.func5, Try.ntmps5
  go_wp2_with fail
  refine (HN.out _).mono ?_
  rintro e w1 ⟨⟨oS0, nS0, cS0, rfl, hRS⟩, hB1⟩
  have V1 := SVar.new (S := S0) hRS
  have B1 := hB1.alloc hB1.size (.cells #[.slice oS0 nS0 cS0, .int .i64 S0.g, .int .i64 S0.u, .int .i64 S0.t, .bool S0.d] 26)
  have hws : w.heap.size ≤ w1.heap.size := hB1.size
  obtain ⟨W1, hW1⟩ : ∃ W1, W1 = w1.alloc (.cells #[.slice oS0 nS0 cS0, .int .i64 S0.g, .int .i64 S0.u, .int .i64 S0.t, .bool S0.d] 26) := ⟨_, rfl⟩
  rw [← hW1] at V1 B1
  have HW1 := Lib.hid hW1
  clear hRS hB1 HN hW1
  go_wp2_with fail
  rw [← HW1.out]
  clear HW1
  refine (alive_any _).mono ?_
  rintro e w2 ⟨rfl, hB2⟩
  have V2 := V1.keep hB2
  have B2 := B1.trans (hB2.mono B1.size)
  clear V1 B1 hB2
  go_upto_region 5 with fail
  go_cut [46, 47, 48] (fun s46 s47 s48 wx => s46 = .slice oa mA cap ∧ s47 = .int .i64 (mA : Int) ∧ s48 = .int .i64 0 ∧ wx = w2)
  case first =>
    have hm := HMA.out
    by_cases h : n ≤ 40
    · obtain rfl : mA = n := by omega
      have h2 : (mA : Int) ≤ 40 := by omega
      clear hm
      go_wp2_with fail
      go_meet
      case rel => exact ⟨rfl, rfl, rfl, rfl⟩
    · obtain rfl : mA = 40 := by omega
      have h2 : (40 : Int) < (n : Int) := by omega
      have h3 : (40 : Int) ≤ (cap : Int) := by omega
      clear hm
      go_wp2_with fail
      go_meet
      case rel => exact ⟨rfl, rfl, rfl, rfl⟩
  case rest =>
    obtain ⟨rfl, rfl, rfl, rfl⟩ := hcut
    go_wp2_with fail
    go_loopw [7, 48] (fun v i wr => ∃ (k : Nat) (S : St) (l : List ByteArray) (oh : Option Addr) (nh ch : Nat) (oS : Option Addr) (nS cS : Nat), k ≤ mA ∧ i = .int .i64 k ∧ v = .slice oh nh ch ∧ SVar wr w1.heap.size oS nS cS S ∧ Hid (Holds S l) ∧ Rd wr oh nh ch l ∧ Below w.heap.size w wr) (fun _ i _ => mA - (intOf i).toNat)
    case atStart => exact ⟨0, S0, [], none, 0, 0, oS0, nS0, cS0, Nat.zero_le _, rfl, rfl, V2, HH0, Rd.nil _, B2⟩
    case round =>
      clear V2 HH0 B2
      obtain ⟨k, S, l, oh, nh, ch, oS, nS, cS, hk, rfl, rfl, V, HH, RH, B⟩ := hrel
      by_cases h8 : k < mA
      rotate_left
      · obtain rfl : k = mA := by omega
        go_wp2_with fail
        go_ret
        exact ⟨rfl, B⟩
      obtain ⟨wo, rfl⟩ : ∃ wo : World, wo = wr := ⟨_, rfl⟩
      obtain ⟨g, o, rfl, b, oL, nL, cL, ls, oF, nF, cF, fs, c0, c1, c2, hL, hF, hcF⟩ := hA.each k (by omega)
      have d0 := keepC B c0
      have d1 := keepC B c1
      have d2 := keepC B c2
      have hk8 : (k : Int) < (mA : Int) := by omega
      have hk0 : (0 : Int) ≤ (k : Int) := by omega
      have hnS : nS ≤ 1000 := by have h1 := V.rd.len; have h2 := log_bounds HH.out.inv.log; omega
      have hnh : nh ≤ 64 := by have h1 := RH.len; have h2 := HH.out.inv.used; have h3 := room_eq HH.out.inv.log; omega
      have hSa : w1.heap.size < wo.heap.size := lt_of_row V.row
      unfold maxLen at hcF
      have hFroom := hF.room
      clear c0 c1 c2
      obtain ⟨I, hID⟩ : ∃ I : World → Prop, I = KI w w1.heap.size oS nS cS S oh nh ch l wo.heap.size (.cells #[.bool b, .slice oL nL cL, .slice oF nF cF] 56 (0, 0)) := ⟨_, rfl⟩
      have st : Hid (Stable I) := by rw [hID]; exact KI.stable _ _ _ _ _ _ _ _ _ _ _ _
      have gI : Hid (∀ wx, I wx → KI w w1.heap.size oS nS cS S oh nh ch l wo.heap.size (.cells #[.bool b, .slice oL nL cL, .slice oF nF cF] 56 (0, 0)) wx) := by intro wx h; rw [hID] at h; exact h
      have mI : Hid (∀ wx, KI w w1.heap.size oS nS cS S oh nh ch l wo.heap.size (.cells #[.bool b, .slice oL nL cL, .slice oF nF cF] 56 (0, 0)) wx → I wx) := by intro wx h; rw [hID]; exact h
      have hI1 : I (wo.alloc (.cells #[.bool b, .slice oL nL cL, .slice oF nF cF] 56)) := by
        rw [hID]
        have hb := below_alloc wo (.cells #[.bool b, .slice oL nL cL, .slice oF nF cF] 56)
        exact ⟨V.keep hb, RH.below hb (Nat.le_refl _), heap_alloc_new wo _, B.trans (hb.mono B.size)⟩
      obtain ⟨wa, hwa⟩ : ∃ wa, wa = wo.alloc (.cells #[.bool b, .slice oL nL cL, .slice oF nF cF] 56) := ⟨_, rfl⟩
      rw [← hwa] at hI1
      have HWA := Lib.hid hwa
      clear hID V RH hwa
      go_upto_region 8 with fail
      rw [← HWA.out]
      clear HWA d0 d1 d2
      have HL := Lib.hid (few_any oL nL cL ls 12 wa (hL.below (gI.out _ hI1).below) (by omega))
      have a0 := cell_of_row _ _ 0 _ _ _ (gI.out _ hI1).a
      have a1 := cell_of_row _ _ 1 _ _ _ (gI.out _ hI1).a
      have a2 := cell_of_row _ _ 2 _ _ _ (gI.out _ hI1).a
      simp only [List.getElem?_toArray, List.getElem?_cons_zero, List.getElem?_cons_succ] at a0 a1 a2
      go_wp2_with fail
      refine HL.out.mono ?_
      rintro e w3 ⟨⟨o3, m3, c3, rfl, hR3⟩, hB3⟩
      have hI3 := st.out _ _ hI1 hB3
      have hm3 : m3 ≤ 12 := by
        have h1 := hR3.len
        have h2 := fewM_length 12 ls
        omega
      have hsm : Hid (∀ p ∈ fewM 12 ls, p.size ≤ 9223372036854775807) := fun p hp => Nat.le_trans (fewM_small 12 ls p hp) (by omega)
      generalize fewM 12 ls = lf at *
      have hlf := Lib.hid hR3.len
      clear hI1 hB3 HL a0 a1 a2
      go_wp2_with fail
      go_loopw [10, 56] (fun v i wr => ∃ j : Nat, j ≤ m3 ∧ i = .int .i64 j ∧ wr.ownsRow w3.heap.size 9 1 v j (strCells ((lf.map (cutS 96)).take j)) ∧ Below w3.heap.size w3 wr ∧ Hid (w3.heap.size ≤ wr.heap.size)) (fun _ i _ => m3 - (intOf i).toNat)
      case atStart => exact ⟨0, Nat.zero_le _, rfl, World.ownsRow_nil _ _ _ _, Below.refl _ _, Nat.le_refl _⟩
      case round =>
        obtain ⟨j, hj, rfl, hown, hB, hS⟩ := hrel
        by_cases h9 : j < m3
        · obtain ⟨b3, rfl, hc0⟩ := hR3.cell j h9
          have hc := keepC hB hc0
          have HT := Lib.hid (map_take4 (cutS 96) lf j (by rw [hlf.out]; exact h9))
          have hsz : (lf.getD j ByteArray.empty).size ≤ 9223372036854775807 := hsm.out _ (getD_mem4 (by rw [hlf.out]; exact h9))
          have hj8 : (j : Int) < (m3 : Int) := by omega
          have hj0 : (0 : Int) ≤ (j : Int) := by omega
          clear hc0
          generalize lf.getD j ByteArray.empty = x at *
          by_cases hx : 96 < x.size
          · have hcut : Hid (cutS 96 x = x.extract 0 96) := by show _ = _; unfold cutS; rw [if_pos hx]
            go_wp2_with (at_builtin; refine wpList_append_own _ rfl _ _ 22 rfl w3.heap.size 9 i0 (.string ⟨#[]⟩) 1 16 Try.underlying22 hi hz0 hz1 hz2 rfl (by decide) _ _ _ rfl (hown.alloc _) ⟨wr.heap.size, 0, none⟩ 1 1 [.string (x.extract 0 96)] rfl rfl (one_new _ _ _) (one_cell _) (by unfold maxLen; omega) (by omega) (by have := hS.out; simp; omega) ?_; intro v' w4 hown' hgrow _)
            have R := grow_row hown hB hS.out hgrow
            rw [← hcut.out, ← strCells_snoc, ← HT.out] at hown'
            have HO := Lib.hid hown'
            clear hown' hgrow hown hc hB hS
            go_wp2_with fail
            go_roundw
            case rel => exact ⟨j + 1, by omega, by go_num, HO.out, R.1, R.2⟩
            case measure => simp [intOf]; omega
          · have hcut : Hid (cutS 96 x = x) := by show _ = _; unfold cutS; rw [if_neg hx]
            go_wp2_with (at_builtin; refine wpList_append_own _ rfl _ _ 22 rfl w3.heap.size 9 i0 (.string ⟨#[]⟩) 1 16 Try.underlying22 hi hz0 hz1 hz2 rfl (by decide) _ _ _ rfl (hown.alloc _) ⟨wr.heap.size, 0, none⟩ 1 1 [.string x] rfl rfl (one_new _ _ _) (one_cell _) (by unfold maxLen; omega) (by omega) (by have := hS.out; simp; omega) ?_; intro v' w4 hown' hgrow _)
            have R := grow_row hown hB hS.out hgrow
            rw [← hcut.out, ← strCells_snoc, ← HT.out] at hown'
            have HO := Lib.hid hown'
            clear hown' hgrow hown hc hB hS
            go_wp2_with fail
            go_roundw
            case rel => exact ⟨j + 1, by omega, by go_num, HO.out, R.1, R.2⟩
            case measure => simp [intOf]; omega
        · obtain rfl : m3 = j := by omega
          have hlm : (lf.map (cutS 96)).length = m3 := by rw [List.length_map]; exact hlf.out
          rw [List.take_of_length_le (by rw [hlm]; exact Nat.le_refl _)] at hown
          have hsl := Lib.hid (cut_all4 lf)
          generalize lf.map (cutS 96) = pl at *
          obtain ⟨ol, cl, rfl, hRl, hlow⟩ := Rd.of_own hlm hown
          have hI4 := st.out _ _ hI3 hB
          obtain ⟨w4, rfl⟩ : ∃ w4 : World, w4 = wr := ⟨_, rfl⟩
          clear hR3 hlf hown hB hS hlow h9 hj hI3 hlm hsm
          obtain ⟨mF, hmF⟩ : ∃ mF, mF = min nF 14 := ⟨_, rfl⟩
          have hmF1 : mF ≤ nF := by omega
          have hmF2 : mF ≤ 14 := by omega
          have HMF := Lib.hid hmF
          clear hmF
          have a0 := cell_of_row _ _ 0 _ _ _ (gI.out _ hI4).a
          have a1 := cell_of_row _ _ 1 _ _ _ (gI.out _ hI4).a
          have a2 := cell_of_row _ _ 2 _ _ _ (gI.out _ hI4).a
          simp only [List.getElem?_toArray, List.getElem?_cons_zero, List.getElem?_cons_succ] at a0 a1 a2
          go_upto_region 15 with fail
          go_cut [75, 76, 77] (fun s75 s76 s77 wx => s75 = .slice oF mF cF ∧ s76 = .int .i64 (mF : Int) ∧ s77 = .int .i64 0 ∧ wx = w4)
          case first =>
            have hm := HMF.out
            by_cases h : nF ≤ 14
            · obtain rfl : mF = nF := by omega
              have h2 : (mF : Int) ≤ 14 := by omega
              clear hm
              go_wp2_with fail
              go_meet
              case rel => exact ⟨rfl, rfl, rfl, rfl⟩
            · obtain rfl : mF = 14 := by omega
              have h2 : (14 : Int) < (nF : Int) := by omega
              have h3 : (14 : Int) ≤ (cF : Int) := by omega
              clear hm
              go_wp2_with fail
              go_meet
              case rel => exact ⟨rfl, rfl, rfl, rfl⟩
          case rest =>
            obtain ⟨rfl, rfl, rfl, rfl⟩ := hcut
            clear a0 a1 a2
            have hF4 := frd_takeK (hF.keep (gI.out _ hI4).below) mF hmF1
            generalize fs.take mF = ft at *
            have hfl := Lib.hid hF4.len
            go_wp2_with fail
            go_loopw [13, 77] (fun v i wr => ∃ j : Nat, j ≤ mF ∧ i = .int .i64 j ∧ wr.ownsRow wc.heap.size 44 2 v j (ftCells ((ft.map fixF).take j)) ∧ Below wc.heap.size wc wr ∧ Hid (wc.heap.size ≤ wr.heap.size)) (fun _ i _ => mF - (intOf i).toNat)
            case atStart => exact ⟨0, Nat.zero_le _, rfl, World.ownsRow_nil _ _ _ _, Below.refl _ _, Nat.le_refl _⟩
            case round =>
              obtain ⟨j, hj, rfl, hown, hB, hS⟩ := hrel
              by_cases h9 : j < mF
              · obtain ⟨bf, off, rfl, x0, x1⟩ := (hF4.keep hB).cell j h9
                have HT := Lib.hid (map_takeF ft j (by rw [hfl.out]; exact h9))
                have HC := Lib.hid (fun wx => lfault_any (ft.getD j (0, 0)) wx)
                have hj8 : (j : Int) < (mF : Int) := by omega
                have hj0 : (0 : Int) ≤ (j : Int) := by omega
                generalize fixF (ft.getD j (0, 0)) = ff at *
                generalize ft.getD j (0, 0) = fq at *
                obtain ⟨f1, f2⟩ := ff
                obtain ⟨q1, q2⟩ := fq
                dsimp only at x0 x1 HC
                have hbx := below_alloc wr (.cells #[.int .i64 q1, .int .i64 q2] 44)
                go_wp2_with fail
                refine (HC.out _).mono ?_
                rintro e w5 ⟨rfl, hB5⟩
                have hB6 : Below wr.heap.size wr w5 := hbx.trans (hB5.mono hbx.size)
                have hown5 := Stable.own _ _ _ _ _ _ _ _ hown hB6
                have hB7 := hB.trans (hB6.mono hS.out)
                have hS7 := Lib.hid (Nat.le_trans hS.out hB6.size)
                clear hown hB hS hB5 hB6 hbx x0 x1 HC
                go_wp2_with (at_builtin; refine wpList_append_own _ rfl _ _ 45 rfl wc.heap.size 44 j0 (.agg #[.int .i64 0, .int .i64 0]) 2 16 Try.underlying45 ji jz0 jz1 jz2 rfl (by decide) _ _ _ rfl (hown5.alloc _) ⟨w5.heap.size, 0, none⟩ 1 1 [.int .i64 f1, .int .i64 f2] rfl rfl (two_new _ _ _ _) (ft_cells _ _) (by unfold maxLen; omega) (by omega) (by have := hS7.out; simp; omega) ?_; intro v' w6 hown' hgrow _)
                have R := grow_two hown5 hB7 hS7.out hgrow
                have HO : Hid (w6.ownsRow wc.heap.size 44 2 v' (j + 1) (ftCells ((ft.map fixF).take (j + 1)))) := by
                  show World.ownsRow _ _ _ _ _ _ _
                  rw [HT.out, ft_append]
                  exact hown'
                clear hown' hgrow hown5 hB7 hS7
                go_wp2_with fail
                go_roundw
                case rel => exact ⟨j + 1, by omega, by go_num, HO.out, R.1, R.2⟩
                case measure => simp [intOf]; omega
              · obtain rfl : mF = j := by omega
                have hlm : (ft.map fixF).length = mF := by rw [List.length_map]; exact hfl.out
                rw [List.take_of_length_le (by rw [hlm]; exact Nat.le_refl _)] at hown
                have hfo := Lib.hid (fix_all ft)
                generalize ft.map fixF = fx at *
                obtain ⟨of, cf, rfl, hFx⟩ := FRd.of_own hlm hown
                have hI5 := st.out _ _ hI4 hB
                have hRl5 := hRl.below hB (Nat.le_refl _)
                obtain ⟨w5, rfl⟩ : ∃ w5 : World, w5 = wr := ⟨_, rfl⟩
                clear hF4 hfl hown hB hS h9 hj hI4 hlm HMF hRl
                have hIn := st.out _ _ hI5 (below_alloc w5 (.cells #[.slice none 0 0, .int .i64 0, .int .i64 0, .int .i64 0, .bool false] 26))
                have AN : SRow (w5.alloc (.cells #[.slice none 0 0, .int .i64 0, .int .i64 0, .int .i64 0, .bool false] 26)) w5.heap.size (.slice none 0 0) 0 0 0 false := heap_alloc_new w5 _
                have hRn := hRl5.below (below_alloc w5 (.cells #[.slice none 0 0, .int .i64 0, .int .i64 0, .int .i64 0, .bool false] 26)) (Nat.le_refl _)
                have hFn := hFx.keep (below_alloc w5 (.cells #[.slice none 0 0, .int .i64 0, .int .i64 0, .int .i64 0, .bool false] 26))
                have hne : w.heap.size ≤ w5.heap.size := (gI.out _ hI5).below.size
                have hne1 : w1.heap.size < w5.heap.size := lt_of_row (gI.out _ hI5).s.row
                have hne2 : wo.heap.size < w5.heap.size := lt_of_row (gI.out _ hI5).a
                obtain ⟨wn, hwn⟩ : ∃ wn, wn = w5.alloc (.cells #[.slice none 0 0, .int .i64 0, .int .i64 0, .int .i64 0, .bool false] 26) := ⟨_, rfl⟩
                rw [← hwn] at hIn AN hRn hFn
                have HWN := Lib.hid hwn
                have hla := (gI.out _ hI5).a
                clear hwn hRl5 hFx hI5
                go_upto_region 22 with fail
                rw [← HWN.out]
                clear HWN hla
                have a0 := cell_of_row _ _ 0 _ _ _ (gI.out _ hIn).a
                have a1 := cell_of_row _ _ 1 _ _ _ (gI.out _ hIn).a
                have a2 := cell_of_row _ _ 2 _ _ _ (gI.out _ hIn).a
                simp only [List.getElem?_toArray, List.getElem?_cons_zero, List.getElem?_cons_succ] at a0 a1 a2
                go_upto_if 89 with fail
                clear a0 a1 a2
                go_cut [16, 18] (fun s16 s18 wx => ∃ (nx : List ByteArray) (Sn : St) (bad : Int) (ox : Option Addr) (mx cx : Nat) (on : Option Addr) (nn cn : Nat), s16 = .slice ox mx cx ∧ s18 = .int .i64 bad ∧ (bad = 5 ∨ Did S l nx Sn bad) ∧ (Rd wx ox mx cx nx ∧ mx ≤ 100) ∧ (SVar wx w5.heap.size on nn cn Sn ∧ nn ≤ 1000) ∧ I wx)
                case first => as_aux_lemma =>
                  obtain ⟨v0, v1, v2, v3, v4⟩ := (gI.out _ hIn).s.cells
                  obtain ⟨n0, n1, n2, n3, n4⟩ := AN.cells
                  have nf := AN.free
                  cases b
                  rotate_left
                  · have HD := Lib.hid (did_turn HH.out hsl.out hfo.out)
                    have HTU := Lib.hid (turn_any oS nS cS S ol m3 cl pl of mF cf fx wn (gI.out _ hIn).s.rd hnS (hRn.ard (small_each4 hRn.len hsl.out)) (by omega) hFn (by omega))
                    have HLT := Lib.hid (turn_len S pl fx)
                    generalize turnS S pl fx = Sn at *
                    generalize turnW S pl fx = bad at *
                    go_wp2_with fail
                    refine HTU.out.mono ?_
                    rintro e w6 ⟨⟨on, nn, cn, rfl, hRN⟩, hB6⟩
                    have hI6 := st.out _ _ hIn hB6
                    have A6 := AN.keep hB6
                    have R6 := hRn.below hB6 (Nat.le_refl _)
                    have hnn : nn ≤ 1000 := by have h1 := hRN.len; have h2 := HLT.out; have h3 := (gI.out _ hIn).s.rd.len; omega
                    clear hIn AN hRn hFn hB6 v0 v1 v2 v3 v4 n0 n1 n2 n3 n4 nf HTU
                    have hI7 := mI.out _ ((gI.out _ hI6).put A6 (by omega) (by omega) hne (.slice on nn cn) Sn.g Sn.u Sn.t Sn.d)
                    have V7 : SVar (put5 w6 w5.heap.size (.slice on nn cn) Sn.g Sn.u Sn.t Sn.d) w5.heap.size on nn cn Sn := ⟨A6.put _ _ _ _ _, hRN.put A6 ⟨_, _, _, rfl⟩ _ _ _ _ _⟩
                    have R7 := R6.put A6 ⟨_, _, _, rfl⟩ (.slice on nn cn) Sn.g Sn.u Sn.t Sn.d
                    obtain ⟨n0, n1, n2, n3, n4⟩ := A6.cells
                    have nf := A6.free
                    go_wp2_with fail
                    go_meet
                    case rel => exact ⟨pl, Sn, bad, ol, m3, cl, on, nn, cn, rfl, rfl, HD.out, ⟨R7, by omega⟩, ⟨V7, hnn⟩, hI7⟩
                  · have hp : (∃ p, p.size ≤ 96 ∧ (∃ gl, ol = some ⟨gl, 0, none⟩ ∧ (wn.alloc (.cells #[.int .i64 0, .int .i64 0] 44)).cell? ⟨gl, 0, none⟩ = some (.string p)) ∧ (0 : Int) < (m3 : Int)) ∨ ¬ (0 : Int) < (m3 : Int) := by
                      by_cases h : 0 < m3
                      · left
                        obtain ⟨gl, h1, h2⟩ := hRn.cell 0 h
                        exact ⟨_, hsl.out _ (getD_mem4 (by rw [hRn.len]; exact h)), ⟨gl, h1, keepC (below_alloc _ _) h2⟩, by omega⟩
                      · right
                        omega
                    have hq : (∃ x y, faultB (x, y) = true ∧ (∃ gf ff, of = some ⟨gf, ff, none⟩ ∧ (wn.alloc (.cells #[.int .i64 0, .int .i64 0] 44)).cell? ⟨gf, ff, none⟩ = some (.int .i64 x) ∧ (wn.alloc (.cells #[.int .i64 0, .int .i64 0] 44)).cell? ⟨gf, ff + 1, none⟩ = some (.int .i64 y)) ∧ (0 : Int) < (mF : Int)) ∨ ¬ (0 : Int) < (mF : Int) := by
                      by_cases h : 0 < mF
                      · left
                        obtain ⟨gf, ff, h1, h2, h3⟩ := hFn.cell 0 h
                        have hm : fx.getD 0 (0, 0) ∈ fx := by
                          rw [List.getD_eq_getElem?_getD, List.getElem?_eq_getElem (by rw [hFn.len]; exact h)]
                          exact List.getElem_mem _
                        exact ⟨(fx.getD 0 (0, 0)).1, (fx.getD 0 (0, 0)).2, hfo.out _ hm, ⟨gf, ff, h1, keepC (below_alloc _ _) (by simpa using h2), keepC (below_alloc _ _) (by simpa using h3)⟩, by omega⟩
                      · right
                        omega
                    rcases hp with ⟨p, hp96, ⟨gl, rfl, pc⟩, hm0⟩ | hm0
                    · rcases hq with ⟨x, y, hfq, ⟨gf, ff, rfl, q0, q1⟩, hf0⟩ | hf0
                      · have hIF := st.out _ _ hIn (below_alloc wn (.cells #[.int .i64 x, .int .i64 y] 44))
                        have AF := AN.keep (below_alloc wn (.cells #[.int .i64 x, .int .i64 y] 44))
                        have FF : (wn.alloc (.cells #[.int .i64 x, .int .i64 y] 44)).heap[wn.heap.size]? = some (.cells #[.int .i64 x, .int .i64 y] 44 (0, 0)) := heap_alloc_new wn _
                        have hsz : (wn.alloc (.cells #[.int .i64 x, .int .i64 y] 44)).heap.size = wn.heap.size + 1 := by simp
                        have hown := World.ownsRow_lit (base := wn.heap.size + 1) (e := 9) (size := 1) (wn.alloc (.cells #[.int .i64 x, .int .i64 y] 44)) #[] 0 (by rw [hsz]; exact Nat.le_refl _) (by unfold maxLen; omega) rfl
                        have hbl := below_alloc (wn.alloc (.cells #[.int .i64 x, .int .i64 y] 44)) (.cells #[] 9)
                        rw [hsz] at hown hbl
                        have hRH := (gI.out _ (st.out _ _ hIF (by rw [hsz]; exact hbl))).h
                        have hle : wn.heap.size + 1 ≤ ((wn.alloc (.cells #[.int .i64 x, .int .i64 y] 44)).alloc (.cells #[] 9)).heap.size := by simp
                        have HOW := Lib.hid hown
                        have HSZ := Lib.hid hsz
                        have hhn := (gI.out _ hIn).h.len
                        have HHN := Lib.hid hhn
                        clear hown hsz hhn v0 v1 v2 v3 v4 n0 n1 n2 n3 n4 nf
                        go_upto_region 31 with (first
                          | (at_builtin; refine wpList_append_rd _ rfl (.tmp 110) (.tmp 111) rfl hi hz0 hz1 hz2 (base := wn.heap.size + 1) (b := wn.heap.size + 1) rfl HOW.out rfl hRH (by omega) hle ?_; intro v7 w7 o7 g7; have hB7 := hbl.grown g7 hle (fun g hg => by cases hg; exact Nat.le_refl _); have hs7 : wn.heap.size + 1 ≤ w7.heap.size := Nat.le_trans hle g7.size)
                          | (at_builtin; refine wpList_append_own _ rfl (.tmp 112) (.tmp 114) 22 rfl (wn.heap.size + 1) 9 i0 (.string ⟨#[]⟩) 1 16 Try.underlying22 hi hz0 hz1 hz2 rfl (by decide) _ _ _ rfl (o7.alloc _) ⟨w7.heap.size, 0, none⟩ 1 1 [.string p] rfl rfl (one_new _ _ _) (one_cell _) (by unfold maxLen; omega) (by omega) (by simp; omega) ?_; intro v8 w8 o8 g8 _))
                        have R8 := grow_row o7 hB7 hs7 g8
                        have hB8 : Below (wn.alloc (.cells #[.int .i64 x, .int .i64 y] 44)).heap.size (wn.alloc (.cells #[.int .i64 x, .int .i64 y] 44)) w8 := by rw [HSZ.out]; exact R8.1
                        have hI8 := st.out _ _ hIF hB8
                        have A8 := AF.keep hB8
                        have F8 := keepB hB8 FF
                        rw [← strCells_snoc] at o8
                        obtain ⟨ox, cx, rfl, hRX, _⟩ := Rd.of_own (by rw [List.length_append, HHN.out]; rfl) o8
                        clear o7 hB7 hs7 g7 o8 g8 R8 hB8 hIF AF FF hRH hbl hle HOW HSZ hIn AN hRn hFn
                        have HD := Lib.hid (did_append HH.out (p := p) hp96 (f := (x, y)) hfq)
                        have HAP := Lib.hid (append_any oS nS cS S p (x, y) w8 (gI.out _ hI8).s.rd hnS (by have := hp96; unfold maxLen; omega))
                        have HLT := Lib.hid (append_len S p (x, y))
                        generalize appS S p (x, y) = Sn at *
                        generalize appW S p (x, y) = bad at *
                        obtain ⟨v0, v1, v2, v3, v4⟩ := (gI.out _ hI8).s.cells
                        have f0 := cell_of_row _ _ 0 _ _ _ F8
                        have f1 := cell_of_row _ _ 1 _ _ _ F8
                        simp only [List.getElem?_toArray, List.getElem?_cons_zero, List.getElem?_cons_succ] at f0 f1
                        go_wp2_with fail
                        refine HAP.out.mono ?_
                        rintro e w9 ⟨⟨on, nn, cn, rfl, hRN⟩, hB9⟩
                        have hI9 := st.out _ _ hI8 hB9
                        have A9 := A8.keep hB9
                        have R9 := hRX.below hB9 (Nat.le_refl _)
                        have hnn : nn ≤ 1000 := by have h1 := hRN.len; have h2 := HLT.out; have h3 := (gI.out _ hI8).s.rd.len; omega
                        clear hI8 A8 F8 hRX hB9 v0 v1 v2 v3 v4 f0 f1 HAP
                        have hI10 := mI.out _ ((gI.out _ hI9).put A9 (by omega) (by omega) hne (.slice on nn cn) Sn.g Sn.u Sn.t Sn.d)
                        have V10 : SVar (put5 w9 w5.heap.size (.slice on nn cn) Sn.g Sn.u Sn.t Sn.d) w5.heap.size on nn cn Sn := ⟨A9.put _ _ _ _ _, hRN.put A9 ⟨_, _, _, rfl⟩ _ _ _ _ _⟩
                        have R10 := R9.put A9 ⟨_, _, _, rfl⟩ (.slice on nn cn) Sn.g Sn.u Sn.t Sn.d
                        obtain ⟨n0, n1, n2, n3, n4⟩ := A9.cells
                        have nf := A9.free
                        go_wp2_with fail
                        go_meet
                        case rel => exact ⟨_, Sn, bad, ox, _, cx, on, nn, cn, rfl, rfl, HD.out, ⟨R10, by omega⟩, ⟨V10, hnn⟩, hI10⟩
                      · have hIF := st.out _ _ hIn (below_alloc wn (.cells #[.int .i64 0, .int .i64 0] 44))
                        have AF := AN.keep (below_alloc wn (.cells #[.int .i64 0, .int .i64 0] 44))
                        have FF : (wn.alloc (.cells #[.int .i64 0, .int .i64 0] 44)).heap[wn.heap.size]? = some (.cells #[.int .i64 0, .int .i64 0] 44 (0, 0)) := heap_alloc_new wn _
                        have hsz : (wn.alloc (.cells #[.int .i64 0, .int .i64 0] 44)).heap.size = wn.heap.size + 1 := by simp
                        have hown := World.ownsRow_lit (base := wn.heap.size + 1) (e := 9) (size := 1) (wn.alloc (.cells #[.int .i64 0, .int .i64 0] 44)) #[] 0 (by rw [hsz]; exact Nat.le_refl _) (by unfold maxLen; omega) rfl
                        have hbl := below_alloc (wn.alloc (.cells #[.int .i64 0, .int .i64 0] 44)) (.cells #[] 9)
                        rw [hsz] at hown hbl
                        have hRH := (gI.out _ (st.out _ _ hIF (by rw [hsz]; exact hbl))).h
                        have hle : wn.heap.size + 1 ≤ ((wn.alloc (.cells #[.int .i64 0, .int .i64 0] 44)).alloc (.cells #[] 9)).heap.size := by simp
                        have HOW := Lib.hid hown
                        have HSZ := Lib.hid hsz
                        have hhn := (gI.out _ hIn).h.len
                        have HHN := Lib.hid hhn
                        clear hown hsz hhn v0 v1 v2 v3 v4 n0 n1 n2 n3 n4 nf
                        go_upto_region 31 with (first
                          | (at_builtin; refine wpList_append_rd _ rfl (.tmp 110) (.tmp 111) rfl hi hz0 hz1 hz2 (base := wn.heap.size + 1) (b := wn.heap.size + 1) rfl HOW.out rfl hRH (by omega) hle ?_; intro v7 w7 o7 g7; have hB7 := hbl.grown g7 hle (fun g hg => by cases hg; exact Nat.le_refl _); have hs7 : wn.heap.size + 1 ≤ w7.heap.size := Nat.le_trans hle g7.size)
                          | (at_builtin; refine wpList_append_own _ rfl (.tmp 112) (.tmp 114) 22 rfl (wn.heap.size + 1) 9 i0 (.string ⟨#[]⟩) 1 16 Try.underlying22 hi hz0 hz1 hz2 rfl (by decide) _ _ _ rfl (o7.alloc _) ⟨w7.heap.size, 0, none⟩ 1 1 [.string p] rfl rfl (one_new _ _ _) (one_cell _) (by unfold maxLen; omega) (by omega) (by simp; omega) ?_; intro v8 w8 o8 g8 _))
                        have R8 := grow_row o7 hB7 hs7 g8
                        have hB8 : Below (wn.alloc (.cells #[.int .i64 0, .int .i64 0] 44)).heap.size (wn.alloc (.cells #[.int .i64 0, .int .i64 0] 44)) w8 := by rw [HSZ.out]; exact R8.1
                        have hI8 := st.out _ _ hIF hB8
                        have A8 := AF.keep hB8
                        have F8 := keepB hB8 FF
                        rw [← strCells_snoc] at o8
                        obtain ⟨ox, cx, rfl, hRX, _⟩ := Rd.of_own (by rw [List.length_append, HHN.out]; rfl) o8
                        clear o7 hB7 hs7 g7 o8 g8 R8 hB8 hIF AF FF hRH hbl hle HOW HSZ hIn AN hRn hFn
                        have HD := Lib.hid (did_append HH.out (p := p) hp96 (f := (0, 0)) (show faultB (0, 0) = true by decide))
                        have HAP := Lib.hid (append_any oS nS cS S p (0, 0) w8 (gI.out _ hI8).s.rd hnS (by have := hp96; unfold maxLen; omega))
                        have HLT := Lib.hid (append_len S p (0, 0))
                        generalize appS S p (0, 0) = Sn at *
                        generalize appW S p (0, 0) = bad at *
                        obtain ⟨v0, v1, v2, v3, v4⟩ := (gI.out _ hI8).s.cells
                        have f0 := cell_of_row _ _ 0 _ _ _ F8
                        have f1 := cell_of_row _ _ 1 _ _ _ F8
                        simp only [List.getElem?_toArray, List.getElem?_cons_zero, List.getElem?_cons_succ] at f0 f1
                        go_wp2_with fail
                        refine HAP.out.mono ?_
                        rintro e w9 ⟨⟨on, nn, cn, rfl, hRN⟩, hB9⟩
                        have hI9 := st.out _ _ hI8 hB9
                        have A9 := A8.keep hB9
                        have R9 := hRX.below hB9 (Nat.le_refl _)
                        have hnn : nn ≤ 1000 := by have h1 := hRN.len; have h2 := HLT.out; have h3 := (gI.out _ hI8).s.rd.len; omega
                        clear hI8 A8 F8 hRX hB9 v0 v1 v2 v3 v4 f0 f1 HAP
                        have hI10 := mI.out _ ((gI.out _ hI9).put A9 (by omega) (by omega) hne (.slice on nn cn) Sn.g Sn.u Sn.t Sn.d)
                        have V10 : SVar (put5 w9 w5.heap.size (.slice on nn cn) Sn.g Sn.u Sn.t Sn.d) w5.heap.size on nn cn Sn := ⟨A9.put _ _ _ _ _, hRN.put A9 ⟨_, _, _, rfl⟩ _ _ _ _ _⟩
                        have R10 := R9.put A9 ⟨_, _, _, rfl⟩ (.slice on nn cn) Sn.g Sn.u Sn.t Sn.d
                        obtain ⟨n0, n1, n2, n3, n4⟩ := A9.cells
                        have nf := A9.free
                        go_wp2_with fail
                        go_meet
                        case rel => exact ⟨_, Sn, bad, ox, _, cx, on, nn, cn, rfl, rfl, HD.out, ⟨R10, by omega⟩, ⟨V10, hnn⟩, hI10⟩
                    · rcases hq with ⟨x, y, hfq, ⟨gf, ff, rfl, q0, q1⟩, hf0⟩ | hf0
                      · have hIF := st.out _ _ hIn (below_alloc wn (.cells #[.int .i64 x, .int .i64 y] 44))
                        have AF := AN.keep (below_alloc wn (.cells #[.int .i64 x, .int .i64 y] 44))
                        have FF : (wn.alloc (.cells #[.int .i64 x, .int .i64 y] 44)).heap[wn.heap.size]? = some (.cells #[.int .i64 x, .int .i64 y] 44 (0, 0)) := heap_alloc_new wn _
                        have hsz : (wn.alloc (.cells #[.int .i64 x, .int .i64 y] 44)).heap.size = wn.heap.size + 1 := by simp
                        have hown := World.ownsRow_lit (base := wn.heap.size + 1) (e := 9) (size := 1) (wn.alloc (.cells #[.int .i64 x, .int .i64 y] 44)) #[] 0 (by rw [hsz]; exact Nat.le_refl _) (by unfold maxLen; omega) rfl
                        have hbl := below_alloc (wn.alloc (.cells #[.int .i64 x, .int .i64 y] 44)) (.cells #[] 9)
                        rw [hsz] at hown hbl
                        have hRH := (gI.out _ (st.out _ _ hIF (by rw [hsz]; exact hbl))).h
                        have hle : wn.heap.size + 1 ≤ ((wn.alloc (.cells #[.int .i64 x, .int .i64 y] 44)).alloc (.cells #[] 9)).heap.size := by simp
                        have HOW := Lib.hid hown
                        have HSZ := Lib.hid hsz
                        have hhn := (gI.out _ hIn).h.len
                        have HHN := Lib.hid hhn
                        clear hown hsz hhn v0 v1 v2 v3 v4 n0 n1 n2 n3 n4 nf
                        go_upto_region 31 with (first
                          | (at_builtin; refine wpList_append_rd _ rfl (.tmp 110) (.tmp 111) rfl hi hz0 hz1 hz2 (base := wn.heap.size + 1) (b := wn.heap.size + 1) rfl HOW.out rfl hRH (by omega) hle ?_; intro v7 w7 o7 g7; have hB7 := hbl.grown g7 hle (fun g hg => by cases hg; exact Nat.le_refl _); have hs7 : wn.heap.size + 1 ≤ w7.heap.size := Nat.le_trans hle g7.size)
                          | (at_builtin; refine wpList_append_own _ rfl (.tmp 112) (.tmp 114) 22 rfl (wn.heap.size + 1) 9 i0 (.string ⟨#[]⟩) 1 16 Try.underlying22 hi hz0 hz1 hz2 rfl (by decide) _ _ _ rfl (o7.alloc _) ⟨w7.heap.size, 0, none⟩ 1 1 [.string ⟨#[]⟩] rfl rfl (one_new _ _ _) (one_cell _) (by unfold maxLen; omega) (by omega) (by simp; omega) ?_; intro v8 w8 o8 g8 _))
                        have R8 := grow_row o7 hB7 hs7 g8
                        have hB8 : Below (wn.alloc (.cells #[.int .i64 x, .int .i64 y] 44)).heap.size (wn.alloc (.cells #[.int .i64 x, .int .i64 y] 44)) w8 := by rw [HSZ.out]; exact R8.1
                        have hI8 := st.out _ _ hIF hB8
                        have A8 := AF.keep hB8
                        have F8 := keepB hB8 FF
                        rw [← strCells_snoc] at o8
                        obtain ⟨ox, cx, rfl, hRX, _⟩ := Rd.of_own (by rw [List.length_append, HHN.out]; rfl) o8
                        clear o7 hB7 hs7 g7 o8 g8 R8 hB8 hIF AF FF hRH hbl hle HOW HSZ hIn AN hRn hFn
                        have HD := Lib.hid (did_append HH.out (p := ⟨#[]⟩) (show ByteArray.size ⟨#[]⟩ ≤ 96 by decide) (f := (x, y)) hfq)
                        have HAP := Lib.hid (append_any oS nS cS S ⟨#[]⟩ (x, y) w8 (gI.out _ hI8).s.rd hnS (by have := (show ByteArray.size ⟨#[]⟩ ≤ 96 by decide); unfold maxLen; omega))
                        have HLT := Lib.hid (append_len S ⟨#[]⟩ (x, y))
                        generalize appS S ⟨#[]⟩ (x, y) = Sn at *
                        generalize appW S ⟨#[]⟩ (x, y) = bad at *
                        obtain ⟨v0, v1, v2, v3, v4⟩ := (gI.out _ hI8).s.cells
                        have f0 := cell_of_row _ _ 0 _ _ _ F8
                        have f1 := cell_of_row _ _ 1 _ _ _ F8
                        simp only [List.getElem?_toArray, List.getElem?_cons_zero, List.getElem?_cons_succ] at f0 f1
                        go_wp2_with fail
                        refine HAP.out.mono ?_
                        rintro e w9 ⟨⟨on, nn, cn, rfl, hRN⟩, hB9⟩
                        have hI9 := st.out _ _ hI8 hB9
                        have A9 := A8.keep hB9
                        have R9 := hRX.below hB9 (Nat.le_refl _)
                        have hnn : nn ≤ 1000 := by have h1 := hRN.len; have h2 := HLT.out; have h3 := (gI.out _ hI8).s.rd.len; omega
                        clear hI8 A8 F8 hRX hB9 v0 v1 v2 v3 v4 f0 f1 HAP
                        have hI10 := mI.out _ ((gI.out _ hI9).put A9 (by omega) (by omega) hne (.slice on nn cn) Sn.g Sn.u Sn.t Sn.d)
                        have V10 : SVar (put5 w9 w5.heap.size (.slice on nn cn) Sn.g Sn.u Sn.t Sn.d) w5.heap.size on nn cn Sn := ⟨A9.put _ _ _ _ _, hRN.put A9 ⟨_, _, _, rfl⟩ _ _ _ _ _⟩
                        have R10 := R9.put A9 ⟨_, _, _, rfl⟩ (.slice on nn cn) Sn.g Sn.u Sn.t Sn.d
                        obtain ⟨n0, n1, n2, n3, n4⟩ := A9.cells
                        have nf := A9.free
                        go_wp2_with fail
                        go_meet
                        case rel => exact ⟨_, Sn, bad, ox, _, cx, on, nn, cn, rfl, rfl, HD.out, ⟨R10, by omega⟩, ⟨V10, hnn⟩, hI10⟩
                      · have hIF := st.out _ _ hIn (below_alloc wn (.cells #[.int .i64 0, .int .i64 0] 44))
                        have AF := AN.keep (below_alloc wn (.cells #[.int .i64 0, .int .i64 0] 44))
                        have FF : (wn.alloc (.cells #[.int .i64 0, .int .i64 0] 44)).heap[wn.heap.size]? = some (.cells #[.int .i64 0, .int .i64 0] 44 (0, 0)) := heap_alloc_new wn _
                        have hsz : (wn.alloc (.cells #[.int .i64 0, .int .i64 0] 44)).heap.size = wn.heap.size + 1 := by simp
                        have hown := World.ownsRow_lit (base := wn.heap.size + 1) (e := 9) (size := 1) (wn.alloc (.cells #[.int .i64 0, .int .i64 0] 44)) #[] 0 (by rw [hsz]; exact Nat.le_refl _) (by unfold maxLen; omega) rfl
                        have hbl := below_alloc (wn.alloc (.cells #[.int .i64 0, .int .i64 0] 44)) (.cells #[] 9)
                        rw [hsz] at hown hbl
                        have hRH := (gI.out _ (st.out _ _ hIF (by rw [hsz]; exact hbl))).h
                        have hle : wn.heap.size + 1 ≤ ((wn.alloc (.cells #[.int .i64 0, .int .i64 0] 44)).alloc (.cells #[] 9)).heap.size := by simp
                        have HOW := Lib.hid hown
                        have HSZ := Lib.hid hsz
                        have hhn := (gI.out _ hIn).h.len
                        have HHN := Lib.hid hhn
                        clear hown hsz hhn v0 v1 v2 v3 v4 n0 n1 n2 n3 n4 nf
                        go_upto_region 31 with (first
                          | (at_builtin; refine wpList_append_rd _ rfl (.tmp 110) (.tmp 111) rfl hi hz0 hz1 hz2 (base := wn.heap.size + 1) (b := wn.heap.size + 1) rfl HOW.out rfl hRH (by omega) hle ?_; intro v7 w7 o7 g7; have hB7 := hbl.grown g7 hle (fun g hg => by cases hg; exact Nat.le_refl _); have hs7 : wn.heap.size + 1 ≤ w7.heap.size := Nat.le_trans hle g7.size)
                          | (at_builtin; refine wpList_append_own _ rfl (.tmp 112) (.tmp 114) 22 rfl (wn.heap.size + 1) 9 i0 (.string ⟨#[]⟩) 1 16 Try.underlying22 hi hz0 hz1 hz2 rfl (by decide) _ _ _ rfl (o7.alloc _) ⟨w7.heap.size, 0, none⟩ 1 1 [.string ⟨#[]⟩] rfl rfl (one_new _ _ _) (one_cell _) (by unfold maxLen; omega) (by omega) (by simp; omega) ?_; intro v8 w8 o8 g8 _))
                        have R8 := grow_row o7 hB7 hs7 g8
                        have hB8 : Below (wn.alloc (.cells #[.int .i64 0, .int .i64 0] 44)).heap.size (wn.alloc (.cells #[.int .i64 0, .int .i64 0] 44)) w8 := by rw [HSZ.out]; exact R8.1
                        have hI8 := st.out _ _ hIF hB8
                        have A8 := AF.keep hB8
                        have F8 := keepB hB8 FF
                        rw [← strCells_snoc] at o8
                        obtain ⟨ox, cx, rfl, hRX, _⟩ := Rd.of_own (by rw [List.length_append, HHN.out]; rfl) o8
                        clear o7 hB7 hs7 g7 o8 g8 R8 hB8 hIF AF FF hRH hbl hle HOW HSZ hIn AN hRn hFn
                        have HD := Lib.hid (did_append HH.out (p := ⟨#[]⟩) (show ByteArray.size ⟨#[]⟩ ≤ 96 by decide) (f := (0, 0)) (show faultB (0, 0) = true by decide))
                        have HAP := Lib.hid (append_any oS nS cS S ⟨#[]⟩ (0, 0) w8 (gI.out _ hI8).s.rd hnS (by have := (show ByteArray.size ⟨#[]⟩ ≤ 96 by decide); unfold maxLen; omega))
                        have HLT := Lib.hid (append_len S ⟨#[]⟩ (0, 0))
                        generalize appS S ⟨#[]⟩ (0, 0) = Sn at *
                        generalize appW S ⟨#[]⟩ (0, 0) = bad at *
                        obtain ⟨v0, v1, v2, v3, v4⟩ := (gI.out _ hI8).s.cells
                        have f0 := cell_of_row _ _ 0 _ _ _ F8
                        have f1 := cell_of_row _ _ 1 _ _ _ F8
                        simp only [List.getElem?_toArray, List.getElem?_cons_zero, List.getElem?_cons_succ] at f0 f1
                        go_wp2_with fail
                        refine HAP.out.mono ?_
                        rintro e w9 ⟨⟨on, nn, cn, rfl, hRN⟩, hB9⟩
                        have hI9 := st.out _ _ hI8 hB9
                        have A9 := A8.keep hB9
                        have R9 := hRX.below hB9 (Nat.le_refl _)
                        have hnn : nn ≤ 1000 := by have h1 := hRN.len; have h2 := HLT.out; have h3 := (gI.out _ hI8).s.rd.len; omega
                        clear hI8 A8 F8 hRX hB9 v0 v1 v2 v3 v4 f0 f1 HAP
                        have hI10 := mI.out _ ((gI.out _ hI9).put A9 (by omega) (by omega) hne (.slice on nn cn) Sn.g Sn.u Sn.t Sn.d)
                        have V10 : SVar (put5 w9 w5.heap.size (.slice on nn cn) Sn.g Sn.u Sn.t Sn.d) w5.heap.size on nn cn Sn := ⟨A9.put _ _ _ _ _, hRN.put A9 ⟨_, _, _, rfl⟩ _ _ _ _ _⟩
                        have R10 := R9.put A9 ⟨_, _, _, rfl⟩ (.slice on nn cn) Sn.g Sn.u Sn.t Sn.d
                        obtain ⟨n0, n1, n2, n3, n4⟩ := A9.cells
                        have nf := A9.free
                        go_wp2_with fail
                        go_meet
                        case rel => exact ⟨_, Sn, bad, ox, _, cx, on, nn, cn, rfl, rfl, HD.out, ⟨R10, by omega⟩, ⟨V10, hnn⟩, hI10⟩
                case rest =>
                  obtain ⟨nx, Sn, bad, ox, mx, cx, on, nn, cn, rfl, rfl, hD, ⟨RX, hmx⟩, ⟨VN, hnn⟩, hI6⟩ := hcut
                  clear hIn AN hRn hFn
                  generalize wc = w6 at *
                  rcases hD with rfl | hD
                  · have K6 := gI.out _ hI6
                    go_wp2_with fail
                    go_roundw
                    case rel => exact ⟨k + 1, S, l, oh, nh, ch, oS, nS, cS, by omega, by go_num, rfl, K6.s, HH, K6.h, K6.below⟩
                    case measure => simp [intOf]; omega
                  obtain ⟨Sb, fd, FD⟩ := hD.found
                  have HBO := Lib.hid (boot_any on nn cn Sn.ss w6 VN.rd hnn)
                  rw [FD.er, FD.sto, FD.tell] at HBO
                  have hfd := FD.few
                  have HFD := Lib.hid FD
                  clear FD hD
                  obtain ⟨J, hJD⟩ : ∃ J : World → Prop, J = fun wx => I wx ∧ (SVar wx w5.heap.size on nn cn Sn ∧ Rd wx ox mx cx nx) := ⟨_, rfl⟩
                  have jt : Hid (Stable J) := by rw [hJD]; exact st.out.and ((Stable.svar _ _ _ _ _).and (Stable.rd _ _ _ _))
                  have gJ : Hid (∀ wx, J wx → I wx ∧ (SVar wx w5.heap.size on nn cn Sn ∧ Rd wx ox mx cx nx)) := by intro wx h; rw [hJD] at h; exact h
                  have hJ6 : J w6 := by rw [hJD]; exact ⟨hI6, VN, RX⟩
                  clear hJD VN RX hI6
                  go_upto_block 6 with fail
                  go_cut [] (fun wx => wx = w6)
                  case first =>
                    rcases HFD.out.bad with rfl | rfl | rfl
                    all_goals
                      go_wp2_with fail
                      go_meet
                      case rel => rfl
                  case rest =>
                    have hcs := hcut.symm
                    clear hcut
                    subst hcs
                    obtain ⟨dB, hdB⟩ : ∃ dB, Sn.d = dB := ⟨_, rfl⟩
                    have hb9 : (bad == 9) = dB := by rw [← hdB, HFD.out.down]; by_cases h : bad = 9 <;> simp [h]
                    obtain ⟨n0, n1, n2, n3, n4⟩ := (gJ.out _ hJ6).2.1.cells
                    rw [hdB] at n4
                    have HDB := Lib.hid hdB
                    clear hdB
                    go_wp2_with fail
                    refine HBO.out.mono ?_
                    rintro e w7 ⟨⟨oB, nB, cB, oF2, nF2, cF2, rfl, hRB, hRF⟩, hB7⟩
                    have hJ7 := jt.out _ _ hJ6 hB7
                    have hJ8 := jt.out _ _ hJ7 (below_alloc w7 (.cells #[.slice oB nB cB, .int .i64 Sb.g, .int .i64 Sb.u, .int .i64 Sb.t, .bool Sb.d] 26))
                    have B8 := SVar.new (S := Sb) hRB
                    have F8 := hRF.below (below_alloc w7 (.cells #[.slice oB nB cB, .int .i64 Sb.g, .int .i64 Sb.u, .int .i64 Sb.t, .bool Sb.d] 26)) (Nat.le_refl _)
                    have hBb : w1.heap.size < w7.heap.size := lt_of_row (gI.out _ (gJ.out _ hJ7).1).s.row
                    have hnF : nF2 ≤ 64 := by have h1 := hRF.len; omega
                    obtain ⟨w8, hw8⟩ : ∃ w8, w8 = w7.alloc (.cells #[.slice oB nB cB, .int .i64 Sb.g, .int .i64 Sb.u, .int .i64 Sb.t, .bool Sb.d] 26) := ⟨_, rfl⟩
                    rw [← hw8] at hJ8 B8 F8
                    have HW8 := Lib.hid hw8
                    clear n0 n1 n2 n3 n4 hJ6 hJ7 hRB hRF hB7 HBO hw8
                    obtain ⟨n0, n1, n2, n3, n4⟩ := (gJ.out _ hJ8).2.1.cells
                    rw [HDB.out] at n4
                    have HT1 := Lib.hid (texts_any oF2 nF2 cF2 fd oh nh ch l w8 F8 (gI.out _ (gJ.out _ hJ8).1).h (by omega) (by omega))
                    obtain ⟨wb, hwb⟩ : ∃ wb, sameB fd l = wb := ⟨_, rfl⟩
                    rw [hwb] at HT1
                    have HWB := Lib.hid hwb
                    clear hwb
                    rw [HW8.out] at n0 n1 n2 n3 n4
                    go_wp2_with fail
                    rw [← HW8.out]
                    clear HW8 n0 n1 n2 n3 n4 hb9
                    refine HT1.out.mono ?_
                    rintro e w9 ⟨rfl, hB9⟩
                    have hJ9 := jt.out _ _ hJ8 hB9
                    have B9 := B8.keep hB9
                    have F9 := F8.below hB9 (Nat.le_refl _)
                    clear hJ8 B8 F8 hB9 HT1
                    have HT2 := Lib.hid (texts_any oF2 nF2 cF2 fd ox mx cx nx w9 F9 (gJ.out _ hJ9).2.2 (by omega) (by omega))
                    obtain ⟨ib, hib⟩ : ∃ ib, sameB fd nx = ib := ⟨_, rfl⟩
                    rw [hib] at HT2
                    have HIB := Lib.hid hib
                    clear hib
                    go_wp2_with fail
                    refine HT2.out.mono ?_
                    rintro e w10 ⟨rfl, hB10⟩
                    have hJ10 := jt.out _ _ hJ9 hB10
                    have B10 := B9.keep hB10
                    have F10 := F9.below hB10 (Nat.le_refl _)
                    clear hJ9 B9 F9 hB10 HT2
                    go_upto_block 7 with fail
                    go_cut [] (fun wx => wx = w10)
                    case first => as_aux_lemma =>
                      obtain ⟨n0, n1, n2, n3, n4⟩ := (gJ.out _ hJ10).2.1.cells
                      obtain ⟨y0, y1, y2, y3, y4⟩ := B10.cells
                      obtain ⟨v0, v1, v2, v3, v4⟩ := (gI.out _ (gJ.out _ hJ10).1).s.cells
                      rcases HFD.out.bad with rfl | rfl | rfl
                      · have HN0 := HFD.out.zero rfl
                        have qg1 : (Sb.g == Sn.g) = true := by rw [beq_iff_eq]; exact HN0.2.1
                        have qg2 : (Sb.g != Sn.g) = false := by rw [bne, qg1]; rfl
                        have qu1 : (Sb.u == Sn.u) = true := by rw [beq_iff_eq]; exact HN0.2.2.1
                        have qu2 : (Sb.u != Sn.u) = false := by rw [bne, qu1]; rfl
                        obtain rfl : ib = true := by rw [← HIB.out, HN0.1, same_self]
                        clear HN0
                        cases wb
                        all_goals
                          go_wp2_with fail
                          go_meet
                          case rel => rfl
                      · have HN0 := HFD.out.eight rfl
                        have qg1 : (Sn.g == S.g) = true := by rw [beq_iff_eq]; exact HN0.2.1
                        have qg2 : (Sn.g != S.g) = false := by rw [bne, qg1]; rfl
                        have qu1 : (Sn.u == S.u) = true := by rw [beq_iff_eq]; exact HN0.2.2.1
                        have qu2 : (Sn.u != S.u) = false := by rw [bne, qu1]; rfl
                        obtain rfl : wb = true := by rw [← HWB.out, HN0.1, same_self]
                        clear HN0
                        go_wp2_with fail
                        go_meet
                        case rel => rfl
                      · have HN0 := (HFD.out.nine rfl).1
                        have hor : wb = true ∨ ib = true := by
                          rcases HN0 with h | h
                          · left; rw [← HWB.out, h, same_self]
                          · right; rw [← HIB.out, h, same_self]
                        clear HN0
                        cases wb
                        · obtain rfl : ib = true := by simpa using hor
                          clear hor
                          go_wp2_with fail
                          go_meet
                          case rel => rfl
                        · clear hor
                          go_wp2_with fail
                          go_meet
                          case rel => rfl
                    case rest =>
                      have hcs := hcut.symm
                      clear hcut
                      subst hcs
                      have hown := World.ownsRow_lit (base := w10.heap.size) (e := 9) (size := 1) w10 #[] 0 (Nat.le_refl _) (by unfold maxLen; omega) rfl
                      have hbl := below_alloc w10 (.cells #[] 9)
                      have F11 := F10.below hbl (Nat.le_refl _)
                      have hlf := Lib.hid F10.len
                      go_upto_region 50 with (at_builtin; refine wpList_append_rd _ rfl (.tmp 204) (.tmp 205) rfl hi hz0 hz1 hz2 (base := w10.heap.size) (b := w10.heap.size) rfl hown rfl F11 (by omega) hbl.size ?_; intro v11 w11 o11 g11)
                      have hB11 := hbl.grown g11 hbl.size (fun g hg => by cases hg; exact Nat.le_refl _)
                      have hJ11 := jt.out _ _ hJ10 hB11
                      have B11 := B10.keep hB11
                      obtain ⟨oq, cq, rfl, hRq, _⟩ := Rd.of_own hlf.out o11
                      clear hJ10 B10 F10 F11 hown hbl o11 g11 hB11
                      have K11 := gI.out _ (gJ.out _ hJ11).1
                      have N11 := (gJ.out _ hJ11).2.1
                      have V12 : SVar (put5 w11 w1.heap.size (.slice on nn cn) Sn.g Sn.u Sn.t Sn.d) w1.heap.size on nn cn Sn := K11.s.put N11.rd Sn.g Sn.u Sn.t Sn.d
                      have Q12 := hRq.put K11.s.row ⟨_, _, _, rfl⟩ (.slice on nn cn) Sn.g Sn.u Sn.t Sn.d
                      have L12 := put_below K11.below hws (.slice on nn cn) Sn.g Sn.u Sn.t Sn.d
                      have R12 := B11.row.aside (A := w1.heap.size) (by omega) (.slice on nn cn) Sn.g Sn.u Sn.t Sn.d
                      have D12 := B11.rd.put K11.s.row ⟨_, _, _, rfl⟩ (.slice on nn cn) Sn.g Sn.u Sn.t Sn.d
                      obtain ⟨n0, n1, n2, n3, n4⟩ := N11.cells
                      obtain ⟨v0, v1, v2, v3, v4⟩ := K11.s.cells
                      have vf := K11.s.row.free
                      go_upto_region 51 with fail
                      obtain ⟨w12, hw12⟩ : ∃ w12, w12 = put5 w11 w1.heap.size (.slice on nn cn) Sn.g Sn.u Sn.t Sn.d := ⟨_, rfl⟩
                      rw [← hw12] at V12 Q12 L12 R12 D12
                      unfold put5 at hw12
                      rw [← hw12]
                      clear hw12 n0 n1 n2 n3 n4 v0 v1 v2 v3 v4 vf K11 N11 hJ11 B11 hRq
                      by_cases h9 : bad = 9
                      · as_aux_lemma =>
                        obtain rfl := h9
                        have HN : Hid (Hid (Holds Sb fd)) := (HFD.out.nine rfl).2
                        have V13 := V12.put D12 Sb.g Sb.u Sb.t Sb.d
                        have Q13 := Q12.put V12.row ⟨_, _, _, rfl⟩ (.slice oB nB cB) Sb.g Sb.u Sb.t Sb.d
                        have L13 := put_below L12 hws (.slice oB nB cB) Sb.g Sb.u Sb.t Sb.d
                        obtain ⟨y0, y1, y2, y3, y4⟩ := R12.cells
                        obtain ⟨q0, q1, q2, q3, q4⟩ := V12.cells
                        have qf := V12.row.free
                        go_wp2_with fail
                        go_roundw
                        case rel => exact ⟨k + 1, Sb, fd, oq, nF2, cq, oB, nB, cB, by omega, by go_num, rfl, V13, HN.out, Q13, L13⟩
                        case measure => simp [intOf]; omega
                      · as_aux_lemma =>
                        have hb9 : (bad == 9) = false := by rw [beq_eq_false_iff_ne]; exact h9
                        have HN : Hid (Hid (Holds Sn fd)) := by
                          show Hid _
                          rcases HFD.out.bad with h | h | h
                          · exact (HFD.out.zero h).2.2.2
                          · exact (HFD.out.eight h).2.2.2
                          · exact absurd h h9
                        clear h9
                        go_wp2_with fail
                        go_roundw
                        case rel => exact ⟨k + 1, Sn, fd, oq, nF2, cq, on, nn, cn, by omega, by go_num, rfl, V12, HN.out, Q12, L12⟩
                        case measure => simp [intOf]; omega
end Go.Proofs.Ytmjbhmmcpjhmcaa.storeKeeps
