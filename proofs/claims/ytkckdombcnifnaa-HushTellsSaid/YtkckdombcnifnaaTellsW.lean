/-
  HushTells' walk.
-/
import Derived.Test.YtkckdombcnifnaaAddsW
import Derived.Test.YtkckdombcnifnaaRefI
import Derived.Deep.CutBlock
namespace Go.Proofs.Ytkckdombcnifnaa
open Go.RowKit Go.Shelf
set_option linter.unusedVariables false

/-- what Add tells, in letters -/
def AddLet (w : World) (l : List T3) (h : T3) (now : Int) (oq : Option Addr) (nq cq : Nat) (er : Int) : Prop := (addF l h now ≠ 0 ∧ nq = 0 ∧ er = addF l h now) ∨ (addF l h now = 0 ∧ er = 0 ∧ RowOut w (keptT l now ++ [h]) (.slice oq nq cq))
theorem add_let {w : World} {l : List T3} {h : T3} {now : Int} {e : Ending} (q : AddOut w l h now e) : ∃ oq nq cq er, e = .returned (.tuple #[.slice oq nq cq, .int .i64 er]) ∧ Hid (AddLet w l h now oq nq cq er) := by
  rcases q with ⟨h1, h2⟩ | ⟨h1, v, h2, h3⟩
  · exact ⟨none, 0, 0, _, h2, .inl ⟨h1, rfl, rfl⟩⟩
  · obtain ⟨oa, cap, rs, rfl, q⟩ := h3
    exact ⟨oa, rs.length, cap, 0, h2, .inr ⟨h1, rfl, oa, cap, rs, rfl, q⟩⟩
theorem addlet_may {w : World} {l : List T3} {h : T3} {now : Int} {oq : Option Addr} {nq cq : Nat} {er : Int} (q : AddLet w l h now oq nq cq er) (h1 : (hshT l && timeB now) = false) : nq = 0 ∧ er = 1 := by
  have e : addF l h now = 1 := by
    unfold addF
    rw [if_neg]
    intro h2
    simp only [Bool.and_eq_true] at h2
    rw [h2.1, h2.2.2] at h1
    cases h1
  rcases q with ⟨_, h3', h4⟩ | ⟨h3', _⟩
  · exact ⟨h3', h4.trans e⟩
  · rw [e] at h3'; cases h3'
theorem addlet_ok {w : World} {l : List T3} {h : T3} {now : Int} {oq : Option Addr} {nq cq : Nat} {er : Int} (q : AddLet w l h now oq nq cq er) (h1 : okT h = false) : nq = 0 ∧ er = 1 := by
  have e : addF l h now = 1 := by
    unfold addF
    rw [if_neg]
    intro h2
    simp only [Bool.and_eq_true] at h2
    rw [h2.2.1] at h1
    cases h1
  rcases q with ⟨_, h3', h4⟩ | ⟨h3', _⟩
  · exact ⟨h3', h4.trans e⟩
  · rw [e] at h3'; cases h3'
theorem addlet_over {w : World} {l : List T3} {h : T3} {now : Int} {oq : Option Addr} {nq cq : Nat} {er : Int} (q : AddLet w l h now oq nq cq er) (h1 : (hshT l && timeB now) = true) (h2 : okT h = true) (h4 : h.2.1 ≤ now) : nq = 0 ∧ er = 3 := by
  simp only [Bool.and_eq_true] at h1
  have e : addF l h now = 3 := by
    unfold addF
    rw [h1.1, h1.2, h2, if_pos (show (true && (true && true)) = true from rfl), if_pos h4]
  rcases q with ⟨_, h3', h5⟩ | ⟨h3', _⟩
  · exact ⟨h3', h5.trans e⟩
  · rw [e] at h3'; cases h3'
theorem addlet_full {w : World} {l : List T3} {h : T3} {now : Int} {oq : Option Addr} {nq cq : Nat} {er : Int} (q : AddLet w l h now oq nq cq er) (h1 : (hshT l && timeB now) = true) (h2 : okT h = true) (h4 : ¬ h.2.1 ≤ now) (h8 : (keptT l now).length = 8) : nq = 0 ∧ er = 5 := by
  simp only [Bool.and_eq_true] at h1
  have e : addF l h now = 5 := by
    unfold addF
    rw [h1.1, h1.2, h2, if_pos (show (true && (true && true)) = true from rfl), if_neg h4, if_pos h8]
  rcases q with ⟨_, h3', h5⟩ | ⟨h3', _⟩
  · exact ⟨h3', h5.trans e⟩
  · rw [e] at h3'; cases h3'
theorem addlet_one {w : World} {l : List T3} {h : T3} {now : Int} {oq : Option Addr} {nq cq : Nat} {er : Int} (q : AddLet w l h now oq nq cq er) (h1 : (hshT l && timeB now) = true) (h2 : okT h = true) (h4 : ¬ h.2.1 ≤ now) (h8 : (keptT l now).length ≠ 8) : er = 0 ∧ RowOut w (keptT l now ++ [h]) (.slice oq nq cq) := by
  simp only [Bool.and_eq_true] at h1
  have e : addF l h now = 0 := by
    unfold addF
    rw [h1.1, h1.2, h2, if_pos (show (true && (true && true)) = true from rfl), if_neg h4, if_neg h8]
  rcases q with ⟨h3', _⟩ | ⟨_, h5, h6⟩
  · exact absurd e h3'
  · exact ⟨h5, h6⟩
theorem act_let {l : List T3} {L : List L2} {now : Int} {e : Ending} (q : ActOut l L now e) : ∃ b z, e = .returned (.tuple #[.bool b, .int .i64 z]) ∧ Hid (b = (actF l L now).1 ∧ z = (actF l L now).2) := ⟨_, _, q, rfl, rfl⟩
theorem free_let {l : List T3} {L : List L2} {now : Int} {e : Ending} (q : FreeOut l L now e) : ∃ t z, e = .returned (.tuple #[.int .i64 t, .int .i64 z]) ∧ Hid ((mayT l L now = false ∧ t = 0 ∧ z = 1) ∨ (mayT l L now = true ∧ z = 0 ∧ FreeT l L now t)) := by
  rcases q with ⟨h1, h2⟩ | ⟨h1, t, h2, h3⟩
  · exact ⟨0, 1, h2, .inl ⟨h1, rfl, rfl⟩⟩
  · exact ⟨t, 0, h3, .inr ⟨h1, rfl, h2⟩⟩
set_option maxRecDepth 100000 in
set_option maxHeartbeats 12800000 in
theorem tells_walk (oa : Option Addr) (n cap : Nat) (l : List H5) (x : H5) (ob : Option Addr) (nb cb : Nat) (L : List L2) (now : Int) (w : World) (h : Hs w oa n cap l) (hk : LkB w l) (hn : cap ≤ maxLen) (hM : Ms w x.pa x.n x.c x.ms) (hx : x.n ≤ 9223372036854775807) (hL : Ls w ob nb cb L) (hnb : cb ≤ maxLen) (hZ : ∀ k, k < L.length → (L.getD k zL).1.size ≤ maxLen ∧ (L.getD k zL).2.size ≤ maxLen) :
    Calls Try.prog 3 #[.slice oa n cap, aggH x, .slice ob nb cb, .int .i64 now] w fun e w' => e = .returned (.bool true) ∧ Below w.heap.size w w' := by
  have hr := h.room
  have hrb := hL.room
  have hSL : ShortL L := fun k hk => by have := hZ k hk; unfold maxLen at this; omega
  clear hZ
  unfold maxLen at hn hnb
  have B0 := below_alloc w (.cells (vH x) 25)
  have V0 := Vals.new w 25 (vH x)
  have HFew := fun W (hW : Below w.heap.size w W) => few_any oa n cap l W (h.below hW (Nat.le_refl _)) (fun y hy => ⟨(hk y hy).1.below hW (Nat.le_refl _), (hk y hy).2⟩) (by omega)
  have HCut := fun W (hW : Below w.heap.size w W) => cut_any x W (hM.below hW (Nat.le_refl _)) hx
  have HSome := fun w1 (B1 : Below w.heap.size w w1) => some_any ob nb cb L w1 (hL.below B1 (Nat.le_refl _))
  have hL5 := hL.some
  have HS5 := Lib.hid (hSL.take (min nb 5))
  have hm5 : min nb 5 ≤ 5 := Nat.min_le_right _ _
  have hsz : (w.alloc (.cells (vH x) 25)).heap.size = w.heap.size + 1 := by simp
  generalize hu : min nb 5 = u at *
  clear hu h hk hL hM hSL
  generalize L.take u = L5 at *
  obtain ⟨hf, ht, hpa, hpn, hpc, hpm⟩ := x
  dsimp only [aggH, vH] at *
  go_enter Try.func3, Try.ntmps3
  go_upto_region 1 with fail
  generalize w.alloc (.cells #[.int .i64 hf, .int .i64 ht, .slice hpa hpn hpc] 25) = w1 at *
  obtain ⟨B, hBw⟩ : ∃ B, B = w.heap.size := ⟨_, rfl⟩
  rw [← hBw] at V0 hsz
  rw [← hBw]
  have hwB : w.heap.size ≤ B := by omega
  have HBw := Lib.hid hBw
  clear hBw
  have BD : Below w1.heap.size w1 w1.drew := (Below.refl _ _).drew
  have VD : Vals w1.drew B 25 #[.int .i64 hf, .int .i64 ht, .slice hpa hpn hpc] := V0
  have e0 : w1.drew.cell? ⟨B, 0, none⟩ = some (.int .i64 hf) := VD.cell 0
  have e1 : w1.drew.cell? ⟨B, 1, none⟩ = some (.int .i64 ht) := VD.cell 1
  have e2 : w1.drew.cell? ⟨B, 2, none⟩ = some (.slice hpa hpn hpc) := VD.cell 2
  go_cut [0, 2, 17, 18, 19, 20, 21, 22] (fun s0 s2 _ _ _ _ _ _ wx => s2 = .slice ob u cb ∧ SomeOut w wx B s0)
  case first =>
    go_region_with (first
      | (go_at_call 7; refine (HFew _ (by first | exact B0.trans (BC.mono B0.size) | exact B0.trans (BD.mono B0.size))).mono ?_; rintro e wf ⟨⟨v, rs, rfl, hO, hE⟩, Bf⟩; have BF : Below w1.heap.size w1 wf := (by first | exact BC.trans (Bf.mono BC.size) | exact BD.trans (Bf.mono BD.size)); have VF := V0.keep BF (Nat.le_refl _); have a0 : wf.cell? ⟨B, 0, none⟩ = some (.int .i64 hf) := VF.cell 0; have a1 : wf.cell? ⟨B, 1, none⟩ = some (.int .i64 ht) := VF.cell 1; have a2 : wf.cell? ⟨B, 2, none⟩ = some (.slice hpa hpn hpc) := VF.cell 2; have af0 := VF.free 0; have af1 := VF.free 1; have af2 := VF.free 2)
      | (go_at_call 8; refine (HCut _ (by first | exact B0.trans (BF.mono B0.size) | exact B0.trans (BD.mono B0.size))).mono ?_; rintro e wc ⟨⟨y, rfl, hy, hP⟩, Bc⟩; have BC : Below w1.heap.size w1 wc := (by first | exact BF.trans (Bc.mono BF.size) | exact BD.trans (Bc.mono BD.size)); have VC := V0.keep BC (Nat.le_refl _); have b0 : wc.cell? ⟨B, 0, none⟩ = some (.int .i64 hf) := VC.cell 0; have b1 : wc.cell? ⟨B, 1, none⟩ = some (.int .i64 ht) := VC.cell 1; have b2 : wc.cell? ⟨B, 2, none⟩ = some (.slice hpa hpn hpc) := VC.cell 2; have bf0 := VC.free 0; have bf1 := VC.free 1; have bf2 := VC.free 2)
      | (go_at_call 9; refine (HSome _ (by first | exact B0.trans (BC.mono B0.size) | exact B0.trans (BF.mono B0.size) | exact B0.trans (BD.mono B0.size))).mono ?_; rintro e w2 ⟨rfl, rfl⟩))
    all_goals
      have hR := (by first
        | exact some_out (x := ⟨hf, ht, hpa, hpn, hpc, hpm⟩) (z := ⟨hf, ht, hpa, hpn, hpc, hpm⟩) ((hO.base (show B + 1 ≤ _ by first | exact Nat.le_trans (Nat.le_of_eq hsz.symm) BD.size | exact Nat.le_trans (Nat.le_of_eq hsz.symm) BC.size)).keep Bc) (hP.base (show B + 1 ≤ _ by exact Nat.le_trans (Nat.le_of_eq hsz.symm) BF.size)) VC (by omega) (B0.trans (BC.mono B0.size)) hwB hE hy
        | exact some_out (x := ⟨hf, ht, hpa, hpn, hpc, hpm⟩) (z := ⟨hf, ht, hpa, hpn, hpc, hpm⟩) (hO.base (show B + 1 ≤ _ by exact Nat.le_trans (Nat.le_of_eq hsz.symm) BC.size)) ((hP.base (show B + 1 ≤ _ by exact Nat.le_trans (Nat.le_of_eq hsz.symm) BD.size)).keep Bf) VF (by omega) (B0.trans (BF.mono B0.size)) hwB hE hy : SomeOut w _ B v)
      clear HFew HCut HSome hO hP hE hy
      go_wp2_with fail
      go_meet
      case rel => exact ⟨rfl, hR⟩
  case rest =>
    obtain ⟨rfl, oz, cz, ls, y, rfl, S⟩ := hcut
    obtain ⟨W0, hW0⟩ : ∃ W0, W0 = wc := ⟨_, rfl⟩
    subst hW0
    clear HFew HCut HSome BD VD e0 e1 e2 V0 B0 hsz
    have hL1 := hL5.below S.below (Nat.le_refl _)
    have hten := S.ten
    obtain ⟨r, hr'⟩ : ∃ r, r = ls.length := ⟨_, rfl⟩
    have HR := Lib.hid hr'
    have hH1 := S.lies
    rw [← hr'] at hten hH1 ⊢
    clear hr'
    have hK1 := S.link
    have HAdd := add_any oz r cz ls y now W0 hH1 hK1 (by omega) S.ms (by have := S.six; omega)
    have HAct := fun W (hW : Below W0.heap.size W0 W) => active_any oz r cz ls ob u cb L5 now W (hH1.below hW (Nat.le_refl _)) (hK1.below hW (Nat.le_refl _)) (by omega) (hL1.below hW (Nat.le_refl _)) (by omega)
    have HFree := fun W (hW : Below W0.heap.size W0 W) => free_any oz r cz ls ob u cb L5 now W (hH1.below hW (Nat.le_refl _)) (hK1.below hW (Nat.le_refl _)) (by omega) (hL1.below hW (Nat.le_refl _)) (by omega)
    have HRt := fun W (hW : Below W0.heap.size W0 W) => hshR_any oz r cz ls W (hH1.below hW (Nat.le_refl _)) (hK1.below hW (Nat.le_refl _)) (by omega)
    have HRR := fun W (hW : Below W0.heap.size W0 W) => refRightH_any oz r cz ls W (hH1.below hW (Nat.le_refl _)) (hK1.below hW (Nat.le_refl _)) S.short (by omega)
    have HKp := fun W (hW : Below W0.heap.size W0 W) => refKept_any oz r cz ls now W (hH1.below hW (Nat.le_refl _)) (by omega)
    have HHu := fun W (hW : Below W0.heap.size W0 W) => refHushR_any y.f y.t y.pa y.n y.c y.ms W (S.ms.below hW (Nat.le_refl _)) (by have := S.six; omega) S.shorty
    have HTi := fun W => refTime_any now W
    have HLb := fun W (hW : Below W0.heap.size W0 W) => refRight_any ob u cb L5 W (hL1.below hW (Nat.le_refl _)) (by omega) HS5.out
    have HRA : Hid (rightB L5 = true → hshT (ls.map h3) = true → ∀ W, Below W0.heap.size W0 W → Calls Try.prog 21 #[.slice oz r cz, .slice ob u cb, .int .i64 now] W fun e w' => e = .returned (.bool (actT (ls.map h3) L5 now)) ∧ Below W.heap.size W w') := fun q1 q2 W hW => refActive_any oz r cz ls ob u cb L5 now W (hH1.below hW (Nat.le_refl _)) (hK1.below hW (Nat.le_refl _)) (by omega) (hL1.below hW (Nat.le_refl _)) (by omega) q1 q2
    have HRF : Hid (rightB L5 = true → hshT (ls.map h3) = true → ∀ W, Below W0.heap.size W0 W → Calls Try.prog 22 #[.slice oz r cz, .slice ob u cb, .int .i64 now] W fun e w' => e = .returned (.int .i64 (refFreeT (ls.map h3) L5 now)) ∧ Below W.heap.size W w') := fun q1 q2 W hW => refFree_any oz r cz ls ob u cb L5 now W (hH1.below hW (Nat.le_refl _)) (hK1.below hW (Nat.le_refl _)) (by omega) (hL1.below hW (Nat.le_refl _)) (by omega) q1 q2
    have HAl := fun w => alive_any w
    have B1 := S.below
    have HS := Lib.hid S
    have hbox := S.box
    obtain ⟨f, t, pa, q, c, ms⟩ := y
    dsimp only [aggH, vH] at *
    have d0 : W0.cell? ⟨B, 0, none⟩ = some (.int .i64 f) := hbox.cell 0
    have d1 : W0.cell? ⟨B, 1, none⟩ = some (.int .i64 t) := hbox.cell 1
    have d2 : W0.cell? ⟨B, 2, none⟩ = some (.slice pa q c) := hbox.cell 2
    have HTy : Hid (hushR f t ms = okT (h3 ⟨f, t, pa, q, c, ms⟩)) := rfl
    have HT2 : Hid ((h3 ⟨f, t, pa, q, c, ms⟩).2.1 = t) := rfl
    have HKM := Lib.hid (keptH_map ls now)
    have HKS : Hid (∀ x ∈ keptH ls now, x ∈ ls) := fun x hx => (List.mem_filter.1 hx).1
    clear S hH1 hK1 hL1 hL5
    generalize hts : ls.map h3 = ts at *
    generalize htx : h3 ⟨f, t, pa, q, c, ms⟩ = tx at *
    have HTX := Lib.hid htx
    clear hts htx
    go_wp2_with fail
    refine HAdd.mono ?_
    rintro e w2 ⟨hA, B2⟩
    obtain ⟨oq, nq, cq, er, rfl, HA⟩ := add_let hA
    have B12 := B1.trans (B2.mono B1.size)
    replace HAct := fun W (hW : Below w2.heap.size w2 W) => HAct W (B2.trans (hW.mono B2.size))
    replace HFree := fun W (hW : Below w2.heap.size w2 W) => HFree W (B2.trans (hW.mono B2.size))
    replace HRt := fun W (hW : Below w2.heap.size w2 W) => HRt W (B2.trans (hW.mono B2.size))
    replace HRR := fun W (hW : Below w2.heap.size w2 W) => HRR W (B2.trans (hW.mono B2.size))
    replace HKp := fun W (hW : Below w2.heap.size w2 W) => HKp W (B2.trans (hW.mono B2.size))
    replace HHu := fun W (hW : Below w2.heap.size w2 W) => HHu W (B2.trans (hW.mono B2.size))
    replace HLb := fun W (hW : Below w2.heap.size w2 W) => HLb W (B2.trans (hW.mono B2.size))
    replace HRA : Hid (rightB L5 = true → hshT ts = true → ∀ W, Below w2.heap.size w2 W → Calls Try.prog 21 #[.slice oz r cz, .slice ob u cb, .int .i64 now] W fun e w' => e = .returned (.bool (actT ts L5 now)) ∧ Below W.heap.size W w') := fun q1 q2 W hW => HRA.out q1 q2 W (B2.trans (hW.mono B2.size))
    replace HRF : Hid (rightB L5 = true → hshT ts = true → ∀ W, Below w2.heap.size w2 W → Calls Try.prog 22 #[.slice oz r cz, .slice ob u cb, .int .i64 now] W fun e w' => e = .returned (.int .i64 (refFreeT ts L5 now)) ∧ Below W.heap.size W w') := fun q1 q2 W hW => HRF.out q1 q2 W (B2.trans (hW.mono B2.size))
    have V2 := hbox.keep B2 (Nat.le_refl _)
    have HL2 : Hid (Lk w2 ls) := HS.out.link.below B2 (Nat.le_refl _)
    have HM2 : Hid (Lk w2 [⟨f, t, pa, q, c, ms⟩]) := Lk.one (HS.out.ms.below B2 (Nat.le_refl _)) (by have := HS.out.six; dsimp only at this ⊢; omega)
    clear hA HAdd d0 d1 d2 hbox B1 B2 HS
    go_wp2_with fail
    refine (HAct _ (Below.refl _ _)).mono ?_
    rintro e w3 ⟨hB, B3⟩
    obtain ⟨b, zb, rfl, HB⟩ := act_let hB
    have C3 := B3
    clear hB HAct B3
    go_wp2_with fail
    refine (HFree _ C3).mono ?_
    rintro e w4 ⟨hC, B4⟩
    obtain ⟨tf, zf, rfl, HC⟩ := free_let hC
    have C4 := C3.trans (B4.mono C3.size)
    clear hC HFree B4
    go_wp2_with fail
    refine (HRt _ C4).mono ?_
    rintro e w5 ⟨rfl, B5⟩
    have C5 := C4.trans (B5.mono C4.size)
    clear HRt B5
    generalize hhb : hshT ts = hb at *
    have HHB := Lib.hid hhb
    clear hhb
    go_wp2_with fail
    refine (HRR _ C5).mono ?_
    rintro e w6 ⟨rfl, B6⟩
    have C6 := C5.trans (B6.mono C5.size)
    clear B6
    have hbb : (hb == hb) = true := by simp
    have hbn : (hb != hb) = false := by simp
    go_wp2_with fail
    refine (HAl _).mono ?_
    rintro e w7 ⟨rfl, B7⟩
    have C7 := C6.trans (B7.mono C6.size)
    clear B7 hbb hbn
    go_upto_region 7 with fail
    go_cut [15, 53, 54, 55, 56, 57, 58] (fun s15 _ _ _ _ _ _ wx => s15 = .bool (hb && timeB now) ∧ Below w2.heap.size w2 wx)
    case first =>
      cases hb with
      | false =>
        go_wp2_with fail
        refine (HRR _ C7).mono ?_
        rintro e w8 ⟨rfl, B8⟩
        have C8 := C7.trans (B8.mono C7.size)
        clear B8
        go_wp2_with fail
        go_meet
        case rel => exact ⟨by simp, C8⟩
      | true =>
        go_wp2_with fail
        refine (HRR _ C7).mono ?_
        rintro e w8 ⟨rfl, B8⟩
        have C8 := C7.trans (B8.mono C7.size)
        clear B8
        generalize timeB now = tb at *
        go_wp2_with fail
        refine (HTi _).mono ?_
        rintro e w9 ⟨rfl, hw⟩
        subst hw
        go_wp2_with fail
        go_meet
        case rel => exact ⟨by simp, C8⟩
    case rest =>
      obtain ⟨rfl, C8⟩ := hcut
      clear HRR C7 C6 C5 C4 C3
      go_wp2_with fail
      refine (HKp _ C8).mono ?_
      rintro e w9 ⟨⟨vk, rfl, ownK⟩, B9⟩
      obtain ⟨ok', ck, rfl, _, _⟩ := Hs.of_own rfl ownK
      have C9 := C8.trans (B9.mono C8.size)
      have hbk := C8.size
      have hb9 := B9.size
      have HOK := Lib.hid ownK
      clear HKp B9 ownK
      have VB9 := V2.keep C9 (Nat.le_refl _)
      have d0 : w9.cell? ⟨B, 0, none⟩ = some (.int .i64 f) := VB9.cell 0
      have d1 : w9.cell? ⟨B, 1, none⟩ = some (.int .i64 t) := VB9.cell 1
      have d2 : w9.cell? ⟨B, 2, none⟩ = some (.slice pa q c) := VB9.cell 2
      obtain ⟨nk, hnk⟩ : ∃ nk, nk = (keptH ls now).length := ⟨_, rfl⟩
      have HNK := Lib.hid hnk
      have HKT : Hid ((keptT ts now).length = nk) := by show _ = _; rw [hnk, ← HKM.out, List.length_map]
      have hnk10 : nk ≤ 10 := by
        rw [hnk]
        refine Nat.le_trans (List.length_filter_le _ _) ?_
        have := HR.out
        omega
      rw [← hnk]
      clear hnk
      have HHu := HHu w9 C9
      go_upto_block 0 with fail
      go_cut [15] (fun s15 wx => s15 = .bool (hb && timeB now) ∧ Below w2.heap.size w2 wx)
      case first =>
        cases hm : hb && timeB now with
        | false =>
          obtain ⟨rfl, rfl⟩ := addlet_may HA.out (by rw [HHB.out]; exact hm)
          have HM := Lib.hid hm
          clear hm
          go_wp2_with fail
          go_meet
          case rel => exact ⟨by rw [HM.out], C9⟩
        | true =>
          have HM := Lib.hid hm
          clear hm
          cases ho : hushR f t ms with
          | false =>
            obtain ⟨rfl, rfl⟩ := addlet_ok HA.out (by rw [← HTy.out]; exact ho)
            rw [ho] at HHu
            clear ho
            go_wp2_with fail
            refine HHu.mono ?_
            rintro e w10 ⟨rfl, B10⟩
            have C10 := C9.trans (B10.mono C9.size)
            go_wp2_with fail
            go_meet
            case rel => exact ⟨by rw [HM.out], C10⟩
          | true =>
            rw [ho] at HHu
            have HO := Lib.hid ho
            clear ho
            by_cases hov : t ≤ now
            · obtain ⟨rfl, rfl⟩ := addlet_over HA.out (by rw [HHB.out]; exact HM.out) (by rw [← HTy.out]; exact HO.out) (by rw [HT2.out]; exact hov)
              go_wp2_with fail
              refine HHu.mono ?_
              rintro e w10 ⟨rfl, B10⟩
              have C10 := C9.trans (B10.mono C9.size)
              have VB10 := VB9.keep B10 (Nat.le_refl _)
              have f1 : w10.cell? ⟨B, 1, none⟩ = some (.int .i64 t) := VB10.cell 1
              clear VB10 VB9 d0 d1 d2
              go_wp2_with fail
              go_meet
              case rel => exact ⟨by rw [HM.out], C10⟩
            · by_cases h8 : nk = 8
              · obtain ⟨rfl, rfl⟩ := addlet_full HA.out (by rw [HHB.out]; exact HM.out) (by rw [← HTy.out]; exact HO.out) (by rw [HT2.out]; exact hov) (by rw [HKT.out]; exact h8)
                have h8' : ((nk : Int) == 8) = true := by simp; omega
                clear h8
                go_wp2_with fail
                refine HHu.mono ?_
                rintro e w10 ⟨rfl, B10⟩
                have C10 := C9.trans (B10.mono C9.size)
                have VB10 := VB9.keep B10 (Nat.le_refl _)
                have f1 : w10.cell? ⟨B, 1, none⟩ = some (.int .i64 t) := VB10.cell 1
                clear VB10 VB9 d0 d1 d2
                go_wp2_with fail
                go_meet
                case rel => exact ⟨by rw [HM.out], C10⟩
              · obtain ⟨rfl, hRow⟩ := addlet_one HA.out (by rw [HHB.out]; exact HM.out) (by rw [← HTy.out]; exact HO.out) (by rw [HT2.out]; exact hov) (by rw [HKT.out]; exact h8)
                have h8' : ((nk : Int) == 8) = false := by simp; omega
                obtain ⟨oa2, ca2, rs, e, hHa, hLa, hEa, _⟩ := hRow
                have hnq : nq = rs.length := by cases e; rfl
                have e1 : oa2 = oq := by cases e; rfl
                have e2 : ca2 = cq := by cases e; rfl
                subst e1 e2 hnq
                clear e
                go_wp2_with fail
                refine HHu.mono ?_
                rintro e w10 ⟨rfl, B10⟩
                have C10 := C9.trans (B10.mono C9.size)
                have VB10 := VB9.keep B10 (Nat.le_refl _)
                have f0 : w10.cell? ⟨B, 0, none⟩ = some (.int .i64 f) := VB10.cell 0
                have f1 : w10.cell? ⟨B, 1, none⟩ = some (.int .i64 t) := VB10.cell 1
                have f2 : w10.cell? ⟨B, 2, none⟩ = some (.slice pa q c) := VB10.cell 2
                have hone := Hs.one w10 ⟨f, t, pa, q, c, ms⟩
                have BC := below_alloc w10 (.cells #[.int .i64 f, .int .i64 t, .slice pa q c] 25)
                have ownK := own_keep (own_keep HOK.out B10) BC
                rw [← HNK.out] at ownK
                have hs10 : wc.heap.size ≤ w10.heap.size := Nat.le_trans hb9 B10.size
                have hb11 : wc.heap.size ≤ (w10.alloc (.cells #[.int .i64 f, .int .i64 t, .slice pa q c] 25)).heap.size := Nat.le_trans hb9 (Nat.le_trans B10.size BC.size)
                have C11 := C10.trans (BC.mono C10.size)
                dsimp only [vH] at hone
                clear VB10 VB9 d0 d1 d2 B10 BC h8 HHu
                go_wp2_with (first | (at_builtin; refine wpList_append_hs _ (by rfl) (.tmp 105) (.tmp 107) (by rfl) wc.heap.size (by rfl) ownK (by rfl) hone (by omega) hb11 ?_; intro v1 w12 own12 hg12; have B13 : Below wc.heap.size w10 w12 := ((Below.refl wc.heap.size w10).alloc hs10 _).grown hg12 hb11 (fun r e => (ownK.lt r e).1)))
                have C12 := C10.trans (B13.mono hbk)
                rw [← cellsH_append] at own12
                have hll : (keptH ls now ++ [⟨f, t, pa, q, c, ms⟩] : List H5).length = nk + 1 := by rw [List.length_append, ← HNK.out]; rfl
                obtain ⟨o12, c12, rfl, hH12, _⟩ := Hs.of_own hll own12
                have hrl : rs.length = nk + 1 := by
                  have := congrArg List.length hEa
                  rw [List.length_map, List.length_append, HKT.out] at this
                  exact this
                have HSm := refSameH_any oa2 rs.length ca2 o12 (nk + 1) c12 rs (keptH ls now ++ [⟨f, t, pa, q, c, ms⟩]) w12 (hHa.below C12 (Nat.le_refl _)) (hLa.below C12 (Nat.le_refl _)) hH12 (((HL2.out.sub HKS.out).append HM2.out).below C12 (Nat.le_refl _)) (by rw [hEa, List.map_append, HKM.out, List.map_singleton, HTX.out]) (by omega)
                clear own12 hg12 B13 hH12 hHa hLa hEa hrl hll hone ownK f0 f1 f2
                refine HSm.mono ?_
                rintro e w13 ⟨rfl, B14⟩
                have C13 := C12.trans (B14.mono C12.size)
                clear HSm B14
                go_wp2_with fail
                go_meet
                case rel => exact ⟨by rw [HM.out], C13⟩
      case rest =>
        obtain ⟨rfl, D0⟩ := hcut
        clear HHu HOK HNK HKT HL2 HM2 V2 d0 d1 d2 VB9 HA HKM HKS HTX HT2 HTy HTi C9
        cases hm : hb && timeB now with
        | false =>
          have hmay : mayT ts L5 now = false := by
            unfold mayT
            rw [HHB.out]
            cases hb with
            | false => rfl
            | true =>
              rw [Bool.true_and] at hm
              rw [hm]
              simp
          obtain ⟨rfl, rfl⟩ : b = false ∧ zb = 1 := by
            have := HB.out
            unfold actF at this
            rw [hmay] at this
            exact this
          obtain ⟨rfl, rfl⟩ : tf = 0 ∧ zf = 1 := by
            rcases HC.out with ⟨_, h1, h2⟩ | ⟨h1, _⟩
            · exact ⟨h1, h2⟩
            · rw [hmay] at h1; cases h1
          clear hmay HB HC HRA HRF hm
          go_wp2_with fail
          go_ret
          exact ⟨rfl, B12.trans (D0.mono B12.size)⟩
        | true =>
          simp only [Bool.and_eq_true] at hm
          obtain ⟨rfl, htm⟩ := hm
          have HL9 := HLb _ D0
          have hts := HHB.out
          have Bw := B12.trans (D0.mono B12.size)
          cases hr5 : rightB L5 with
          | false =>
            have hmay : mayT ts L5 now = false := by
              unfold mayT
              rw [hr5]
              simp
            obtain ⟨rfl, rfl⟩ : b = false ∧ zb = 1 := by
              have := HB.out
              unfold actF at this
              rw [hmay] at this
              exact this
            obtain ⟨rfl, rfl⟩ : tf = 0 ∧ zf = 1 := by
              rcases HC.out with ⟨_, h1, h2⟩ | ⟨h1, _⟩
              · exact ⟨h1, h2⟩
              · rw [hmay] at h1; cases h1
            rw [hr5] at HL9
            clear hmay HB HC HRA HRF hr5 hts htm HLb
            go_wp2_with fail
            refine HL9.mono ?_
            rintro e w14 ⟨rfl, B15⟩
            go_wp2_with fail
            go_ret
            exact ⟨rfl, Bw.trans (B15.mono Bw.size)⟩
          | true =>
            have hmay : mayT ts L5 now = true := by
              unfold mayT
              rw [hr5, hts, htm]
              rfl
            obtain ⟨rfl, rfl⟩ : b = actT ts L5 now ∧ zb = 0 := by
              have := HB.out
              unfold actF at this
              rw [hmay] at this
              exact this
            obtain ⟨rfl, hfree⟩ : zf = 0 ∧ refFreeT ts L5 now = tf := by
              rcases HC.out with ⟨h1, _⟩ | ⟨_, h1, h2⟩
              · rw [hmay] at h1; cases h1
              · exact ⟨h1, h2.ref (h2.time hts htm)⟩
            rw [hr5] at HL9
            have HA9 := HRA.out hr5 rfl
            have HF9 := HRF.out hr5 rfl
            rw [hfree] at HF9
            generalize actT ts L5 now = a at *
            have haa : (a == a) = true := by simp
            have htt : (tf == tf) = true := by simp
            clear hmay HB HC HRA HRF hr5 hts htm HLb hfree
            go_wp2_with fail
            refine HL9.mono ?_
            rintro e w14 ⟨rfl, B15⟩
            have D1 := D0.trans (B15.mono D0.size)
            have Bw1 := Bw.trans (B15.mono Bw.size)
            clear HL9 B15 D0 Bw
            go_wp2_with fail
            refine (HA9 _ D1).mono ?_
            rintro e w15 ⟨rfl, B16⟩
            have D2 := D1.trans (B16.mono D1.size)
            have Bw2 := Bw1.trans (B16.mono Bw1.size)
            clear HA9 B16 D1 Bw1
            go_wp2_with fail
            refine (HF9 _ D2).mono ?_
            rintro e w16 ⟨rfl, B17⟩
            go_wp2_with fail
            go_ret
            exact ⟨by simp, Bw2.trans (B17.mono Bw2.size)⟩
end Go.Proofs.Ytkckdombcnifnaa
