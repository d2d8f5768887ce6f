/-
  The program's own: lines of one number, and a route's line (package config).
-/
import Derived.Test.YtbihaoibmkdfjaaGreatDoorCfG
import Derived.Test.YtbihaoibmkdfjaaGreatDoorRfcH
import Derived.Deep.RegionLaw
namespace Go.Proofs.YtbihaoibmkdfjaaGreatDoor
open Go.RowKit Go.Shelf
set_option linter.unusedVariables false

/-- what is told of a line of one number, which is kept at a place of the box -/
def OneOut (w w' : World) (A : Nat) (e : Ending) (va vb : Value) (rep beat : Int) (at3 : Bool) (ws : List (List UInt8)) : Prop := ∃ m er : Int, e = .returned (.int .i64 er) ∧ OneIs ws m er ∧
  Vals w' A 39 (if at3 = true then cfgV va vb rep m else cfgV va vb m beat) ∧ Frm A none w w'
set_option maxRecDepth 100000 in
set_option maxHeartbeats 1600000 in
theorem repLine_c (va vb : Value) (rep beat : Int) (u : List UInt8) (ws : List (List UInt8)) (oa : Option Addr) (n cap : Nat) (A : Nat) (w : World) (hV : Vals w A 39 (cfgV va vb rep beat)) (h : Ts w oa n cap (ws.map tx)) (hn : n ≤ 100000) (hz : ∀ v ∈ ws, v.length ≤ 100000) (hT : Tabs w) :
    Calls Tryz.prog 37 #[.pointer (some ⟨A, 0, none⟩), .slice oa n cap] w fun e w' => OneOut w w' A e va vb rep beat false (u :: ws) := by
  have HW := wait_of u ws oa n cap w h hn hz hT
  clear h hz hT
  unfold OneOut
  go_enter Tryz.func37, Tryz.ntmps37
  go_wp2_with fail
  refine HW.mono ?_
  rintro e w2 ⟨⟨m, er, rfl, hO⟩, B2⟩
  have HO := Lib.hid hO
  have V2 := hV.keep B2 (Nat.le_refl _)
  have c2 : w2.cell? ⟨A, 2, none⟩ = some (.int .i64 rep) := V2.cell 2
  have g2 := V2.free 2
  have V3 : Vals (w2.setCell ⟨A, 2, none⟩ (.int .i64 m)) A 39 (cfgV va vb m beat) := by
    have := V2.set 2 (.int .i64 m)
    simpa using this
  have HV := Lib.hid V3
  have HF : Hid (Frm A none w (w2.setCell ⟨A, 2, none⟩ (.int .i64 m))) := frm_set (frm_below B2) 2 _
  clear hO V2 hV V3 B2 HW
  go_wp2_with fail
  go_ret
  exact ⟨m, er, rfl, HO.out, HV.out, HF.out⟩
set_option maxRecDepth 100000 in
set_option maxHeartbeats 1600000 in
theorem beatLine_c (va vb : Value) (rep beat : Int) (u : List UInt8) (ws : List (List UInt8)) (oa : Option Addr) (n cap : Nat) (A : Nat) (w : World) (hV : Vals w A 39 (cfgV va vb rep beat)) (h : Ts w oa n cap (ws.map tx)) (hn : n ≤ 100000) (hz : ∀ v ∈ ws, v.length ≤ 100000) (hT : Tabs w) :
    Calls Tryz.prog 38 #[.pointer (some ⟨A, 0, none⟩), .slice oa n cap] w fun e w' => OneOut w w' A e va vb rep beat true (u :: ws) := by
  have HW := wait_of u ws oa n cap w h hn hz hT
  clear h hz hT
  unfold OneOut
  go_enter Tryz.func38, Tryz.ntmps38
  go_wp2_with fail
  refine HW.mono ?_
  rintro e w2 ⟨⟨m, er, rfl, hO⟩, B2⟩
  have HO := Lib.hid hO
  have V2 := hV.keep B2 (Nat.le_refl _)
  have c2 : w2.cell? ⟨A, 3, none⟩ = some (.int .i64 beat) := V2.cell 3
  have g2 := V2.free 3
  have V3 : Vals (w2.setCell ⟨A, 3, none⟩ (.int .i64 m)) A 39 (cfgV va vb rep m) := by
    have := V2.set 3 (.int .i64 m)
    simpa using this
  have HV := Lib.hid V3
  have HF : Hid (Frm A none w (w2.setCell ⟨A, 3, none⟩ (.int .i64 m))) := frm_set (frm_below B2) 3 _
  clear hO V2 hV V3 B2 HW
  go_wp2_with fail
  go_ret
  exact ⟨m, er, rfl, HO.out, HV.out, HF.out⟩
theorem step_append_rt (w : World) {ops : Array Oper} {o : Oper} {a : Act} {K : Act → World → Prop} {Q : Exit → Act → World → Prop} {E : Prop} (hw : Region.wanted o (yielded ops a.tmps) = true) (s x : Operand)
    (ho : o.op = .call { callee := .builtin .append, args := #[s, x], argTypes := #[23, 23] }) (base : Nat) {v : Value} {n : Nat} {xs : List Value} (hs : a.eval s = v)
    (hown : w.ownsRow base 56 2 v n xs) {ad : Addr} {c : Nat} {pa pb : Option Addr} {n1 c1 n2 c2 : Nat} (hx : a.eval x = .slice (some ad) 1 c) (hnews : ∀ j u, [Value.slice pa n1 c1, .slice pb n2 c2][j]? = some u → w.cell? (ad.add j) = some u) (hn : n ≤ 1000) (hbase : base ≤ w.heap.size)
    (h : ∀ v' w', w'.ownsRow base 56 2 v' (n + 1) (xs ++ [.slice pa n1 c1, .slice pb n2 c2]) → w.grownBy w' v.ownBlock → K (a.put o.dst v') w') : if Region.wanted o (yielded ops a.tmps) = true then Oper.wp Tryz.prog o a w K Q else E := by
  obtain ⟨i0, hi, hz0, hz1, hz2⟩ := info_parts infoQ
  rw [if_pos hw]
  exact wp_append_own w s x 23 ho base 56 i0 _ 2 48 Tryz.underlying23 hi hz0 hz1 hz2 rfl (by decide) v n xs hs hown ad 1 c [.slice pa n1 c1, .slice pb n2 c2] hx rfl hnews (by intro u hu; simp at hu; rcases hu with rfl | rfl <;> rfl) (by unfold maxLen; omega) (by omega) hbase (fun v' w' h1 h2 _ => h v' w' h1 h2)
/-- what is told of a route's line -/
def RteOut (w w' : World) (base A : Nat) (e : Ending) (c : CfgL) (va vb : Value) (rep beat : Int) (ws : List (List UInt8)) : Prop := ∃ er : Int, e = .returned (.int .i64 er) ∧
  ((er = 0 ∧ ∃ t qs' vb', addT c ws = .ok (c.1, c.2.1 ++ [t], c.2.2) ∧ Vals w' A 39 (cfgV va vb' rep beat) ∧ Own2 w' base vb' (c.2.1 ++ [t]) qs') ∨ (er ≠ 0 ∧ addT c ws = .error er)) ∧ Frm A vb.ownBlock w w'
theorem addT_first {c : CfgL} {u : List UInt8} {ws : List (List UInt8)} (h : c.2.1.length ≠ 4) {r : Int} (hF : FirstAt ws ifT r) : (r < 0 ∧ addT c (u :: ws) = .error 12) ∨ ∃ k : Nat, r = (k : Int) ∧ k < ws.length ∧ addT c (u :: ws) = rteE c (ws.take k) (ws.drop (k + 1)) := by
  rcases hF with ⟨k, rfl, hk, he, hA⟩ | ⟨rfl, hA⟩
  · right
    refine ⟨k, rfl, hk, ?_⟩
    unfold addT
    rw [if_neg h, show (u :: ws).drop 1 = ws from rfl, ifW_at ws [] k hk hA he]
    rfl
  · left
    refine ⟨by decide, ?_⟩
    unfold addT
    rw [if_neg h, show (u :: ws).drop 1 = ws from rfl, ifW_none ws [] hA]
set_option maxRecDepth 100000 in
set_option maxHeartbeats 12800000 in
theorem rteLine_c (c : CfgL) (qs : List (Value × Value)) (oz : Option Addr) (m cz : Nat) (vb : Value) (rep beat : Int) (u : List UInt8) (ws : List (List UInt8)) (oa : Option Addr) (n cap : Nat) (base A : Nat) (w : World) (hV : Vals w A 39 (cfgV (.slice oz m cz) vb rep beat))
    (hRs : Rs w oz m cz c.1) (hm5 : m ≤ 100000) (hO : Own2 w base vb c.2.1 qs) (hlen : c.2.1.length ≤ 4) (h : Ts w oa n cap (ws.map tx)) (hn : n ≤ 100000) (hz : ∀ v ∈ ws, v.length ≤ 100000) (hbase : base ≤ w.heap.size) :
    Calls Tryz.prog 36 #[.pointer (some ⟨A, 0, none⟩), .slice oa n cap] w fun e w' => RteOut w w' base A e c (.slice oz m cz) vb rep beat (u :: ws) := by
  have hl : ws.length = n := by rw [← h.len, List.length_map]
  have hr := h.room
  obtain ⟨ob, cb, rfl, hQs, _⟩ := hO.lies
  obtain ⟨nb, hnb⟩ : ∃ nb, c.2.1.length = nb := ⟨_, rfl⟩
  have hrl := hRs.len
  unfold RteOut
  have HO := Lib.hid hO
  clear hO hQs
  rw [hnb] at hlen HO hV
  rw [hnb]
  have p1 : w.cell? ⟨A, 1, none⟩ = some (.slice ob nb cb) := hV.cell 1
  by_cases h4 : nb = 4
  · have HW := Lib.hid (addT_full (ws := u :: ws) (hnb.trans h4))
    have h4i : ((nb : Int) == 4) = true := by simp [h4]
    have HF : Hid (Frm A (Value.slice ob nb cb).ownBlock w w) := frm_below (Below.refl _ _)
    clear h hz hRs HO hnb hl hV h4 hrl
    go_enter Tryz.func36, Tryz.ntmps36
    go_wp2_with fail
    go_ret
    exact ⟨2, rfl, .inr ⟨by decide, HW.out⟩, HF.out⟩
  have h4i : ((nb : Int) == 4) = false := by simp; omega
  have hn4 : c.2.1.length ≠ 4 := by omega
  have HI := idxT_c ifT oa n cap ws w h hn
  have hz2 : tx ifT = ⟨#[105, 102]⟩ := rfl
  rw [hz2] at HI
  have HFi : Hid (∀ r, FirstAt ws ifT r → (r < 0 ∧ addT c (u :: ws) = .error 12) ∨ ∃ k : Nat, r = (k : Int) ∧ k < ws.length ∧ addT c (u :: ws) = rteE c (ws.take k) (ws.drop (k + 1))) := fun r => addT_first hn4
  have HZ := Lib.hid hz
  clear hz hz2
  go_enter Tryz.func36, Tryz.ntmps36
  go_wp2_with fail
  refine HI.mono ?_
  rintro e w2 ⟨⟨r, rfl, hFr⟩, rfl⟩
  rcases HFi.out r hFr with ⟨hrn, hx⟩ | ⟨k, rfl, hk, hx⟩
  · have HW := Lib.hid hx
    have HF : Hid (Frm A (Value.slice ob nb cb).ownBlock w w) := frm_below (Below.refl _ _)
    clear h HZ hRs HO hnb hl hV h4 hrl HFi hx hFr HI
    go_wp2_with fail
    go_ret
    exact ⟨12, rfl, .inr ⟨by decide, HW.out⟩, HF.out⟩
  have HX := Lib.hid hx
  have hkn : k < n := by omega
  obtain ⟨g, o, rfl, _⟩ := h.cell 0 (by omega)
  have hTk : Ts w (some ⟨g, o, none⟩) k cap ((ws.take k).map tx) := by
    refine ⟨by rw [List.length_map, List.length_take]; omega, by omega, fun i hi => ?_⟩
    obtain ⟨g', o', e, hc⟩ := h.cell i (by omega)
    cases e
    refine ⟨g, o, rfl, ?_⟩
    rw [hc, List.map_take, List.getD_eq_getElem?_getD, List.getD_eq_getElem?_getD, List.getElem?_take_of_lt hi]
  have HP := places_c c.1 oz m cz A (.slice ob nb cb) rep beat (some ⟨g, o, none⟩) k cap (ws.take k) w hV hRs hm5 hTk (by omega)
  have hTd := h.dropped (k + 1) (by omega)
  rw [← List.map_drop] at hTd
  have HZ2 : Hid (∀ v ∈ ws.drop (k + 1), v.length ≤ 100000) := fun v hv => HZ.out v (List.mem_of_mem_drop hv)
  have hL : (ws.drop (k + 1)).length = n - (k + 1) := by rw [List.length_drop, hl]
  have hLk : (ws.take k).length = k := by rw [List.length_take, hl]; omega
  have hk0 : (0 : Int) ≤ (k : Int) := by omega
  have hk1 : (k : Int) ≤ (n : Int) := by omega
  have hk2 : (k : Int) + 1 ≤ (n : Int) := by omega
  have hk3 : (0 : Int) ≤ (k : Int) + 1 := by omega
  have hk4 : (n : Int) ≤ (cap : Int) := by omega
  have hk5 : (k : Int) ≤ (cap : Int) := by omega
  have hk6 : k ≤ 1000000 := by omega
  have hk7 : ¬ (k : Int) < 0 := by omega
  clear h HZ HFi hx hFr HI hTk
  go_wp2_with fail
  refine HP.mono ?_
  rintro e w3 ⟨⟨ch, hch, ov, rfl, hovn, hchl⟩ | ⟨hch, rfl⟩, B3⟩
  rotate_left
  · have HW : Hid (addT c (u :: ws) = .error 4) := by show _ = _; rw [HX.out]; exact rteE_none hch
    have HF : Hid (Frm A (Value.slice ob nb cb).ownBlock w w3) := frm_below B3
    clear hRs HO hnb hl hV h4 hrl HP hTd HZ2 HX hch B3 p1
    go_wp2_with fail
    go_ret
    exact ⟨4, rfl, .inr ⟨by decide, HW.out⟩, HF.out⟩
  have HC := Lib.hid hch
  have hTd3 := hTd.below B3 (Nat.le_refl _)
  have HMt := fun oq cq (hT : Ts w3 oq (n - (k + 1)) cq ((ws.drop (k + 1)).map tx)) => matchers_c oq (n - (k + 1)) cq (ws.drop (k + 1)) w3 hT (by omega) HZ2.out
  clear hTd HP hch p1
  go_upto_region 9 with fail
  obtain ⟨L, hLn⟩ : ∃ L, L = n - (k + 1) := ⟨_, rfl⟩
  have hL2 : (ws.drop (k + 1)).length = L := by omega
  have hLb : L ≤ 100000 := by omega
  go_cut [7, 8, 31, 32, 33, 34, 35, 36, 37, 38] (fun s7 s8 _ _ _ _ _ _ _ _ wx => ((∃ ms, allO askedB (ws.drop (k + 1)) = some ms ∧ s7 = .bool true ∧ wx.ownsRow w3.heap.size 59 3 s8 L (cellsM ms) ∧ ms.length = L) ∨ (allO askedB (ws.drop (k + 1)) = none ∧ s7 = .bool false)) ∧ Below w3.heap.size w3 wx)
  case first =>
    by_cases hce : cap = k + 1
    · have hcle : (cap : Int) ≤ (k : Int) + 1 := by omega
      have hl0 : n - (k + 1) ≤ 0 := by omega
      have HT := HMt (some ⟨g, o, none⟩) (cap - (k + 1)) ⟨by rw [List.length_map, hL], by omega, fun i hi => absurd hi (by omega)⟩
      clear hce HMt hTd3
      go_wp2_with fail
      refine HT.mono ?_
      rintro e w4 ⟨⟨ms, hms, v, rfl, hown, hml⟩ | ⟨hms, rfl⟩, B4⟩
      · have HR : Hid (w4.ownsRow w3.heap.size 59 3 v L (cellsM ms) ∧ ms.length = L) := by
          rw [hL2] at hown hml
          exact ⟨hown, hml⟩
        have HMs := Lib.hid hms
        clear hown hml hms
        go_wp2_with fail
        go_meet
        case rel => exact ⟨.inl ⟨ms, HMs.out, rfl, HR.out.1, HR.out.2⟩, B4⟩
      · have HMs := Lib.hid hms
        clear hms
        go_wp2_with fail
        go_meet
        case rel => exact ⟨.inr ⟨HMs.out, rfl⟩, B4⟩
    · have hci : (cap : Int) ≠ (k : Int) + 1 := by omega
      have HT := HMt _ _ hTd3
      clear HMt hTd3
      go_wp2_with fail
      refine HT.mono ?_
      rintro e w4 ⟨⟨ms, hms, v, rfl, hown, hml⟩ | ⟨hms, rfl⟩, B4⟩
      · have HR : Hid (w4.ownsRow w3.heap.size 59 3 v L (cellsM ms) ∧ ms.length = L) := by
          rw [hL2] at hown hml
          exact ⟨hown, hml⟩
        have HMs := Lib.hid hms
        clear hown hml hms
        go_wp2_with fail
        go_meet
        case rel => exact ⟨.inl ⟨ms, HMs.out, rfl, HR.out.1, HR.out.2⟩, B4⟩
      · have HMs := Lib.hid hms
        clear hms
        go_wp2_with fail
        go_meet
        case rel => exact ⟨.inr ⟨HMs.out, rfl⟩, B4⟩
  case rest =>
    obtain ⟨hor, Bc⟩ := hcut
    have Bwc := B3.trans (Bc.mono B3.size)
    have hown1 := own_keep hovn Bc
    have B3s := B3.size
    clear HMt hTd3 hovn B3 Bc hLn
    rcases hor with ⟨ms, hms, rfl, hownM, hml⟩ | ⟨hms, rfl⟩
    rotate_left
    · have HW : Hid (addT c (u :: ws) = .error 13) := by show _ = _; rw [HX.out]; exact rteE_char HC.out hms
      have HF : Hid (Frm A (Value.slice ob nb cb).ownBlock w wc) := frm_below Bwc
      clear hRs HO hnb hl hV h4 hrl HZ2 HX HC hms hown1 hchl
      go_wp2_with fail
      go_ret
      exact ⟨13, rfl, .inr ⟨by decide, HW.out⟩, HF.out⟩
    have HE : Hid (addT c (u :: ws) = if rteR m (ch, ms) = true then .ok (c.1, c.2.1 ++ [(ch, ms)], c.2.2) else .error 3) := by show _ = _; rw [HX.out, ← hrl]; exact rteE_end HC.out hms
    rw [hLk] at hown1 hchl
    have hownI := own_weaken hown1 hbase
    have hs3 : w.heap.size ≤ wc.heap.size := Bwc.size
    have hb3 : base ≤ w3.heap.size := Nat.le_trans hbase B3s
    obtain ⟨pv, cv, rfl, hNs⟩ := Ns.of_own hchl hownI
    obtain ⟨pw, cw, rfl, hMs, _⟩ := Ms.of_own hml hownM
    have VDn := Vals.new wc 56 #[.slice pv k cv, .slice pw L cw]
    have BD := below_alloc wc (.cells #[.slice pv k cv, .slice pw L cw] 56)
    have BwD := Bwc.trans (BD.mono Bwc.size)
    have VA := (hV.keep Bwc (Nat.le_refl _)).alloc (.cells #[.slice pv k cv, .slice pw L cw] 56)
    have hNs1 := hNs.below BD (Nat.le_refl _)
    have hMs1 := hMs.below BD (Nat.le_refl _)
    have hownI1 := own_keep hownI BD
    have hownM1 := own_keep hownM BD
    clear HC HX hms hown1 hownI hownM hNs hMs BD hrl HZ2 hL hLk hk hkn
    go_upto_region 13 with fail
    obtain ⟨D, hD⟩ : ∃ D, D = wc.heap.size := ⟨_, rfl⟩
    rw [← hD] at VDn ⊢
    clear hD
    generalize wc.alloc (.cells #[.slice pv k cv, .slice pw L cw] 56) = w6 at *
    have d0 : w6.cell? ⟨D, 0, none⟩ = some (.slice pv k cv) := VDn.cell 0
    have d1 : w6.cell? ⟨D, 1, none⟩ = some (.slice pw L cw) := VDn.cell 1
    have a0 : w6.cell? ⟨A, 0, none⟩ = some (.slice oz m cz) := VA.cell 0
    have HRt := fun wx (B : Below w6.heap.size w6 wx) => route_c m pv k cv pw L cw (ch, ms) wx (hNs1.below B (Nat.le_refl _)) (hMs1.below B (Nat.le_refl _)) (by omega) (by omega) (by omega)
    obtain ⟨rr, hrr⟩ : ∃ rr, rr = rteR m (ch, ms) := ⟨_, rfl⟩
    simp only [← hrr] at HRt HE
    clear hrr
    go_cut [44, 45, 46, 47, 48, 49, 50, 51, 52] (fun _ _ _ _ _ _ _ _ s52 wx => s52 = .bool (!rr) ∧ Below w6.heap.size w6 wx)
    case first =>
      first | (go_region_with (first | (go_at_call 51; refine (HRt _ (by first | exact Below.refl _ _ | exact (Below.refl _ _).drew)).mono ?_; rintro e w7 ⟨rfl, B7⟩))) | fail
      all_goals
        have B8 : Below w6.heap.size w6 w7 := by first | exact B7 | exact (Below.refl _ w6).drew.trans B7
        go_wp2_with fail
        go_meet
        case rel => exact ⟨rfl, by first | exact B8 | exact B8.drew⟩
    case rest =>
      obtain ⟨rfl, Bf⟩ := hcut
      have Bwf := BwD.trans (Bf.mono BwD.size)
      have VDf := VDn.keep Bf (Nat.le_refl _)
      have VAf := VA.keep Bf (Nat.le_refl _)
      have ownIf := own_keep hownI1 Bf
      have ownMf := own_keep hownM1 Bf
      clear d0 d1 a0 HRt hNs1 hMs1 hownI1 hownM1 VDn VA BwD Bwc
      cases rr with
      | false =>
        have HW : Hid (addT c (u :: ws) = .error 3) := by show _ = _; rw [HE.out]; rfl
        have HF : Hid (Frm A (Value.slice ob nb cb).ownBlock w wc) := frm_below Bwf
        clear hRs HO hnb hl hV h4 HE ownIf ownMf VDf VAf
        go_wp2_with fail
        go_ret
        exact ⟨3, rfl, .inr ⟨by decide, HW.out⟩, HF.out⟩
      | true =>
        have HW : Hid (addT c (u :: ws) = .ok (c.1, c.2.1 ++ [(ch, ms)], c.2.2)) := by show _ = _; rw [HE.out]; rfl
        have HO7 := HO.out.keep Bwf
        have e0 : wc.cell? ⟨D, 0, none⟩ = some (.slice pv k cv) := VDf.cell 0
        have e1 : wc.cell? ⟨D, 1, none⟩ = some (.slice pw L cw) := VDf.cell 1
        have p1 : wc.cell? ⟨A, 1, none⟩ = some (.slice ob nb cb) := VAf.cell 1
        clear HE
        go_upto_region 15 with fail
        have HO8 := HO7.keep ((below_alloc wc (.cells #[.slice pv k cv, .slice pw L cw] 56)).drew)
        have own8 := HO8.own
        rw [hnb] at own8
        have V08 : Vals (wc.alloc (.cells #[.slice pv k cv, .slice pw L cw] 56)).drew A 39 (cfgV (.slice oz m cz) (.slice ob nb cb) rep beat) := Vals.drew (VAf.alloc (.cells #[.slice pv k cv, .slice pw L cw] 56))
        have B8 := (Bwf.alloc Bwf.size (.cells #[.slice pv k cv, .slice pw L cw] 56)).drew
        have p1a : (wc.alloc (.cells #[.slice pv k cv, .slice pw L cw] 56)).cell? ⟨A, 1, none⟩ = some (.slice ob nb cb) := keepR (below_alloc wc _) p1
        have hnews : ∀ j u, [Value.slice pv k cv, .slice pw L cw][j]? = some u → (wc.alloc (.cells #[.slice pv k cv, .slice pw L cw] 56)).drew.cell? ((⟨wc.heap.size, 0, none⟩ : Addr).add j) = some u := World.news_of_block (Vals.new wc 56 #[.slice pv k cv, .slice pw L cw])
        have I8 := own_weaken (own_keep ownIf ((below_alloc wc (.cells #[.slice pv k cv, .slice pw L cw] 56)).drew)) (Nat.le_refl base)
        have M8 := own_weaken (own_keep ownMf ((below_alloc wc (.cells #[.slice pv k cv, .slice pw L cw] 56)).drew)) hb3
        have hb7 := Bwf.size
        have hlen9 : (c.2.1 ++ [(ch, ms)]).length = nb + 1 := by rw [List.length_append, hnb]; rfl
        clear HO7 ownIf ownMf VAf Bwf VDf hRs HO hV Bf
        go_region_law (first
          | (refine step_append_rt (pa := pv) (n1 := k) (c1 := cv) (pb := pw) (n2 := L) (c2 := cw) _ (by rfl) (.tmp 58) (.tmp 60) (by rfl) base (by rfl) own8 (by rfl) hnews (by omega) (by simp <;> omega) ?_; intro v1 w8 own1 hg1; have OS := Own2.snoc HO8 (t := (ch, ms)) (q := (.slice pv k cv, .slice pw L cw)) (by rw [hchl]; exact I8) (by rw [hml]; exact M8) (by rw [hnb]; exact own1) hg1; obtain ⟨o8, c8, e8, _, _⟩ := OS.lies; rw [hlen9] at e8; subst e8; have V09 := Vals.grown V08 own8 (by decide) hg1; have p8 : w8.cell? ⟨A, 1, none⟩ = some (.slice ob nb cb) := V09.cell 1; have z8 := V09.free 1))
        all_goals
          have V0a : Vals (w8.setCell ⟨A, 1, none⟩ (.slice o8 (nb + 1) c8)) A 39 (cfgV (.slice oz m cz) (.slice o8 (nb + 1) c8) rep beat) := by
            have := V09.set 1 (.slice o8 (nb + 1) c8)
            simpa using this
          have OS2 := Lib.hid (OS.setR V09 1 (.slice o8 (nb + 1) c8))
          have HVa := Lib.hid V0a
          have HF := Lib.hid (frm_set (frm_grown (A := A) B8 hg1) 1 (.slice o8 (nb + 1) c8))
          clear V08 V09 own1 own8 hnews p1 p1a p8 z8 e0 e1 OS HO8 I8 M8 V0a hg1 B8
          go_wp2_with fail
          go_ret
          exact ⟨0, rfl, .inl ⟨rfl, _, _, _, HW.out, HVa.out, OS2.out⟩, HF.out⟩
end Go.Proofs.YtbihaoibmkdfjaaGreatDoor
