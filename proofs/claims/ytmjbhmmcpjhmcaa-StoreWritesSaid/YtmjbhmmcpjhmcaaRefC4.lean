/-
  The document's own answer for what a disk tells when the power comes again.
-/
import Derived.Test.YtmjbhmmcpjhmcaaRefB4
import Derived.Deep.DeepCutAuto
import Derived.Deep.CutBlock
namespace Go.Proofs.Ytmjbhmmcpjhmcaa
open Go.RowKit
set_option linter.unusedVariables false
attribute [local go_sem ↓] Go.wp_at_zero Go.wp_at_succ

/-- what is told: a store, its records, and whether there is one -/
def TellD (e : Ending) (w' : World) (S : St) (l : List ByteArray) (b : Bool) : Prop :=
  ∃ oa n cap ol nl cl, e = .returned (.tuple #[.agg #[.slice oa n cap, .int .i64 S.g, .int .i64 S.u, .int .i64 S.t, .bool S.d], .slice ol nl cl, .bool b]) ∧ Rd w' oa n cap S.ss ∧ Rd w' ol nl cl l
theorem end_rboot {fn : Func} {p q r : Tmp} (h : fn.results = #[.cell p 26, .tmp q, .tmp r]) {tmps : Array Value} {w0 w : World} {A : Nat} {x0 : Value} {g0 u0 t0 : Int} {d0 : Bool} {ob ol : Option Addr} {n m nl cl : Nat} {ss l : List ByteArray} {g u t : Int} {d b : Bool}
    (hp : tmps.getD p undef = .pointer (some ⟨A, 0, none⟩)) (hq : tmps.getD q undef = .slice ol nl cl) (hr : tmps.getD r undef = .bool b) (hA : SRow w A x0 g0 u0 t0 d0) (hx : ∃ a b c, x0 = .slice a b c) (hR : Rd w ob n m ss) (hL : Rd w ol nl cl l) (hB : Below w0.heap.size w0 w) (hle : w0.heap.size ≤ A) :
    bodyPost Try.prog fn (fun e w' => TellD e w' ⟨ss, g, u, t, d⟩ l b ∧ Below w0.heap.size w0 w') Exit.ret { tmps := tmps, defers := [] } (put5 w A (.slice ob n m) g u t d) :=
  bodyPost_ret (ret_boot h hp hq hr (hA.put _ _ _ _ _) rfl) rfl ⟨⟨ob, n, m, ol, nl, cl, rfl, hR.put hA hx _ _ _ _ _, hL.put hA hx _ _ _ _ _⟩, put_below hB hle _ _ _ _ _⟩
theorem tellD_at {fn : Func} {ex : Exit} {a : Act} {w w0 : World} {S S' : St} {l l' : List ByteArray} {b b' : Bool} (hS : S = S') (hl : l = l') (he : b = b') (h : bodyPost Try.prog fn (fun e w' => TellD e w' S l b ∧ Below w0.heap.size w0 w') ex a w) :
    bodyPost Try.prog fn (fun e w' => TellD e w' S' l' b' ∧ Below w0.heap.size w0 w') ex a w := by
  subst hS hl he
  exact h
/-- what stands in memory meanwhile -/
structure RBootI (w0 : World) (A : Nat) (oa : Option Addr) (n cap : Nat) (ss : List ByteArray) (g u t : Int) (w : World) : Prop where
  var : w.heap[w0.heap.size]? = some (.cells #[.slice oa n cap] 24 (0, 0))
  rd : Rd w oa n cap ss
  res : SRow w (w0.heap.size + 1) (.slice none 0 0) 0 0 0 false
  sto : SRow w A (.slice oa n cap) g u t false
  low : w0.heap.size + 1 < A
  below : Below w0.heap.size w0 w
theorem RBootI.stable (w0 : World) (A : Nat) (oa : Option Addr) (n cap : Nat) (ss : List ByteArray) (g u t : Int) : Stable (RBootI w0 A oa n cap ss g u t) :=
  fun _ _ h hB => ⟨keepB hB h.var, h.rd.below hB (Nat.le_refl _), h.res.keep hB, h.sto.keep hB, h.low, h.below.trans (hB.mono h.below.size)⟩
theorem own_below' {w w' : World} {base : Nat} {v : Value} {n : Nat} {xs : List Value} (h : w.ownsRow base 9 1 v n xs) (hB : Below w.heap.size w w') : w'.ownsRow base 9 1 v n xs := Stable.own _ _ _ _ _ _ _ _ h hB
theorem SRow.lt {w : World} {A : Nat} {x : Value} {g u t : Int} {d : Bool} (h : SRow w A x g u t d) : A < w.heap.size := lt_of_row h
theorem RBootI.set2 {w0 : World} {A : Nat} {oa : Option Addr} {n cap : Nat} {ss : List ByteArray} {g u t : Int} {w : World} (h : RBootI w0 A oa n cap ss g u t w) (v : Int) : RBootI w0 A oa n cap ss g v t (w.setCell ⟨A, 2, none⟩ (.int .i64 v)) :=
  ⟨(Below.heap_setCell _ _ _ _ (by have := h.low; show w0.heap.size ≠ A; omega)).trans h.var, h.rd.setInt h.sto.mids.2.1 _, h.res.far (by have := h.low; omega) _ _, h.sto.set2 v, h.low, h.below.setCell (by have := h.low; show w0.heap.size ≤ A; omega) _⟩
theorem RBootI.set3 {w0 : World} {A : Nat} {oa : Option Addr} {n cap : Nat} {ss : List ByteArray} {g u t : Int} {w : World} (h : RBootI w0 A oa n cap ss g u t w) (v : Int) : RBootI w0 A oa n cap ss g u v (w.setCell ⟨A, 3, none⟩ (.int .i64 v)) :=
  ⟨(Below.heap_setCell _ _ _ _ (by have := h.low; show w0.heap.size ≠ A; omega)).trans h.var, h.rd.setInt h.sto.mids.2.2 _, h.res.far (by have := h.low; omega) _ _, h.sto.set3 v, h.low, h.below.setCell (by have := h.low; show w0.heap.size ≤ A; omega) _⟩
set_option maxRecDepth 100000 in
set_option maxHeartbeats 3200000 in
theorem rboot_any (oa : Option Addr) (n cap : Nat) (ss : List ByteArray) (w : World) (hR : Rd w oa n cap ss) (hL : logB ss = true) :
    Calls Try.prog 19 #[.agg #[.slice oa n cap]] w fun e w' => TellD e w' (bootS ss) (bootL ss) (decide (bootE ss = 0)) ∧ Below w.heap.size w w' := by
  obtain ⟨i0, hi, hz0, hz1, hz2⟩ := info_parts info9
  have hlen := hR.len
  have hn : n ≤ 1000 := by have := (log_bounds hL).2; omega
  obtain ⟨hz, _, _, hR64⟩ := room_eq hL
  obtain ⟨W0, hW0⟩ : ∃ W0, W0 = (w.alloc (.cells #[.slice oa n cap] 24)).alloc (.cells #[.slice none 0 0, .int .i64 0, .int .i64 0, .int .i64 0, .bool false] 26) := ⟨_, rfl⟩
  have hI : BootI w oa n cap ss W0 := by
    refine ⟨?_, ?_, ?_, ?_⟩
    · rw [hW0, Below.heap_alloc _ _ _ (by simp)]
      exact heap_alloc_new w _
    · rw [hW0]; exact (hR.below (below_alloc w _) (Nat.le_refl _)).below (below_alloc _ _) (Nat.le_refl _)
    · unfold SRow
      rw [hW0]
      have := heap_alloc_new (w.alloc (.cells #[.slice oa n cap] 24)) (.cells #[.slice none 0 0, .int .i64 0, .int .i64 0, .int .i64 0, .bool false] 26)
      simpa using this
    · rw [hW0]; exact (below_alloc w _).alloc (by simp) _
  have hs0 : w.heap.size + 2 ≤ W0.heap.size := by rw [hW0]; simp
  have HW := Lib.hid hW0
  have HL := Lib.hid hL
  have HLN := Lib.hid hlen
  have HZ := Lib.hid hz
  have KN : Hid (∀ wx, Rd wx oa n cap ss → Calls Try.prog 46 #[.agg #[.slice oa n cap]] wx fun e w' => e = .returned (.int .i64 (newZ ss)) ∧ Below wx.heap.size wx w') := fun wx h => rnewest_any oa n cap ss wx h hL
  clear hW0 hR hL hlen hz
  go_enter Try.func19, Try.ntmps19
  go_upto_region 1 with fail
  rw [← HW.out]
  clear HW
  go_cut [5] (fun s5 wx => ∃ A, s5 = .pointer (some ⟨A, 0, none⟩) ∧ RBootI w A oa n cap ss (newZ ss) 0 0 wx)
  case first =>
    obtain ⟨S, hSD⟩ : ∃ S : World → Prop, S = fun wx => wx.heap[w.heap.size]? = some (.cells #[.slice oa n cap] 24 (0, 0)) := ⟨_, rfl⟩
    have gS : Hid (∀ wx, S wx → wx.heap[w.heap.size]? = some (.cells #[.slice oa n cap] 24 (0, 0))) := by intro wx h; rw [hSD] at h; exact h
    have mS : Hid (∀ wx, wx.heap[w.heap.size]? = some (.cells #[.slice oa n cap] 24 (0, 0)) → S wx) := by intro wx h; rw [hSD]; exact h
    clear hSD
    refine wp_region_taken S 5 (by kernel_rfl) ?_
    have hId : BootI w oa n cap ss W0.drew := ⟨hI.var, hI.rd.drew, hI.res, hI.below.drew⟩
    have hsd : w.heap.size + 2 ≤ W0.drew.heap.size := hs0
    clear hI hs0
    generalize W0.drew = wd at *
    have hS0 := mS.out _ hId.var
    refine wpT_take (i := 0) (v := .agg #[.slice oa n cap]) rfl (by kernel_rfl) (by kernel_rfl) (by kernel_rfl) (fun _ _ _ h => h) (Or.inl ⟨by rfl, fun v hv => ?_⟩) hS0 ?_
    · have v0 := cell_of_one (gS.out _ hv)
      go_simp
    refine wpT_take (i := 1) (v := .agg #[.slice oa n cap]) rfl (by kernel_rfl) (by kernel_rfl) (by kernel_rfl) (fun _ _ _ h => h) (Or.inl ⟨by rfl, fun v hv => ?_⟩) hS0 ?_
    · have v0 := cell_of_one (gS.out _ hv)
      go_simp
    refine wpT_ready (rs := [2, 4]) (by kernel_rfl) (by simp) ?_
    refine AllT.cons rfl (fun K hK => ?_) (AllT.cons rfl (fun K hK => ?_) AllT.nil)
    · go_simp
      refine (KN.out _ hId.rd).mono ?_
      rintro e w5 ⟨rfl, hB5⟩
      have hI5 := BootI.stable w oa n cap ss _ _ hId hB5
      have hs5 := Nat.le_trans hsd hB5.size
      refine hK _ _ (fun _ => mS.out _ hI5.var) ?_
      clear hK K hB5 hId hS0 hsd
      have hS5 := mS.out _ hI5.var
      refine wpT_take (i := 3) (v := .agg #[.slice oa n cap, .int .i64 (newZ ss), .int .i64 0, .int .i64 0, .bool false]) rfl (by kernel_rfl) (by kernel_rfl) (by kernel_rfl) (fun _ _ _ h => h) (Or.inl ⟨by rfl, fun v hv => by go_simp⟩) hS5 ?_
      refine wpT_ready (rs := [4]) (by kernel_rfl) (by simp) ?_
      refine AllT.cons rfl (fun K hK => ?_) AllT.nil
      go_simp
      have hI6 := BootI.stable w oa n cap ss _ _ hI5 (below_alloc w5 (.cells #[.slice none 0 0, .int .i64 0, .int .i64 0, .int .i64 0, .bool false] 26))
      have A6 : SRow (w5.alloc (.cells #[.slice none 0 0, .int .i64 0, .int .i64 0, .int .i64 0, .bool false] 26)) w5.heap.size (.slice none 0 0) 0 0 0 false := heap_alloc_new w5 _
      refine hK _ _ (fun _ => mS.out _ hI6.var) ?_
      clear hK K hI5 hS5
      generalize w5.alloc (.cells #[.slice none 0 0, .int .i64 0, .int .i64 0, .int .i64 0, .bool false] 26) = w6 at *
      refine wpT_ready (rs := [5]) (by kernel_rfl) (by simp) ?_
      refine AllT.cons (o := ⟨none, .store 26 (.tmp 5) (.tmp 16), 0, _, _, none⟩) rfl (fun K hK => ?_) AllT.nil
      rw [if_pos (show Region.wanted _ _ = true from rfl)]
      refine wp_store5 rfl rfl A6 ?_
      refine hK _ _ (fun h => absurd h (by omega)) ?_
      clear hK K
      refine wpT_done (by kernel_rfl) ?_ _
      have hlow : w.heap.size + 1 < w5.heap.size := by omega
      have hfin : RBootI w w5.heap.size oa n cap ss (newZ ss) 0 0 (put5 w6 w5.heap.size (.slice oa n cap) (newZ ss) 0 0 false) :=
        ⟨(put_other _ _ _ _ _ _ _ _ (by omega)).trans hI6.var, hI6.rd.put A6 ⟨_, _, _, rfl⟩ _ _ _ _ _, hI6.res.aside (by omega) _ _ _ _ _, A6.put _ _ _ _ _, hlow, put_below hI6.below (by omega) _ _ _ _ _⟩
      generalize put5 w6 w5.heap.size (.slice oa n cap) (newZ ss) 0 0 false = w7 at *
      go_wp2_with fail
      go_meet
      case rel => exact ⟨_, rfl, hfin⟩
    · go_simp
      have hI6 := BootI.stable w oa n cap ss _ _ hId (below_alloc wd (.cells #[.slice none 0 0, .int .i64 0, .int .i64 0, .int .i64 0, .bool false] 26))
      have A6 : SRow (wd.alloc (.cells #[.slice none 0 0, .int .i64 0, .int .i64 0, .int .i64 0, .bool false] 26)) wd.heap.size (.slice none 0 0) 0 0 0 false := heap_alloc_new wd _
      refine hK _ _ (fun _ => mS.out _ hI6.var) ?_
      clear hK K hId hS0
      generalize wd.alloc (.cells #[.slice none 0 0, .int .i64 0, .int .i64 0, .int .i64 0, .bool false] 26) = w6 at *
      refine wpT_ready (rs := [2]) (by kernel_rfl) (by simp) ?_
      refine AllT.cons rfl (fun K hK => ?_) AllT.nil
      go_simp
      refine (KN.out _ hI6.rd).mono ?_
      rintro e w7 ⟨rfl, hB7⟩
      have hI7 := BootI.stable w oa n cap ss _ _ hI6 hB7
      have A7 := A6.keep hB7
      refine hK _ _ (fun _ => mS.out _ hI7.var) ?_
      clear hK K hB7 hI6 A6
      have hS7 := mS.out _ hI7.var
      refine wpT_take (i := 3) (v := .agg #[.slice oa n cap, .int .i64 (newZ ss), .int .i64 0, .int .i64 0, .bool false]) rfl (by kernel_rfl) (by kernel_rfl) (by kernel_rfl) (fun _ _ _ h => h) (Or.inl ⟨by rfl, fun v hv => by go_simp⟩) hS7 ?_
      refine wpT_ready (rs := [5]) (by kernel_rfl) (by simp) ?_
      refine AllT.cons (o := ⟨none, .store 26 (.tmp 5) (.tmp 16), 0, _, _, none⟩) rfl (fun K hK => ?_) AllT.nil
      rw [if_pos (show Region.wanted _ _ = true from rfl)]
      refine wp_store5 rfl rfl A7 ?_
      refine hK _ _ (fun h => absurd h (by omega)) ?_
      clear hK K
      refine wpT_done (by kernel_rfl) ?_ _
      have hlow : w.heap.size + 1 < wd.heap.size := by omega
      have hfin : RBootI w wd.heap.size oa n cap ss (newZ ss) 0 0 (put5 w7 wd.heap.size (.slice oa n cap) (newZ ss) 0 0 false) :=
        ⟨(put_other _ _ _ _ _ _ _ _ (by omega)).trans hI7.var, hI7.rd.put A7 ⟨_, _, _, rfl⟩ _ _ _ _ _, hI7.res.aside (by omega) _ _ _ _ _, A7.put _ _ _ _ _, hlow, put_below hI7.below (by omega) _ _ _ _ _⟩
      generalize put5 w7 wd.heap.size (.slice oa n cap) (newZ ss) 0 0 false = w8 at *
      go_wp2_with fail
      go_meet
      case rel => exact ⟨_, rfl, hfin⟩
  case rest =>
    obtain ⟨A, rfl, hJ⟩ := hcut
    clear hI hs0 KN
    generalize hw1 : wc = w1 at *
    clear hw1
    have hbd := new_bounds ss
    have HB1 : Hid (newZ ss ≠ 0 → bootE ss = 0) := bootE_3 HL.out
    have HB2 : Hid (newZ ss = 0 → bootE ss = 4) := bootE_2 HL.out
    have HS : Hid (bootE ss = 0 → bootS ss = ⟨ss, newZ ss, ((recL ss (newZ ss)).length : Int), topZ ss (newZ ss), false⟩ ∧ bootL ss = recL ss (newZ ss)) := by
      intro h
      unfold bootS bootL
      rw [if_pos h, if_pos h]
      exact ⟨rfl, rfl⟩
    generalize newZ ss = g at *
    have hlow := hJ.low
    by_cases hg : g = 0
    · have E4 := HB2.out hg
      have HE := Lib.hid (boot_no E4 (by decide))
      have HD : Hid (false = decide (bootE ss = 0)) := by show _ = _; rw [E4]; rfl
      subst hg
      obtain ⟨v0, v1, v2, v3, v4⟩ := hJ.sto.cells
      obtain ⟨p0, p1, p2, p3, p4⟩ := hJ.res.cells
      have pf := hJ.res.free
      clear hbd E4
      go_wp2_with fail
      refine tellD_at HE.out.1 HE.out.2.1 HD.out ?_
      exact end_rboot rfl rfl rfl rfl hJ.res ⟨_, _, _, rfl⟩ (Rd.nil _) (Rd.nil _) hJ.below (by omega)
    have hg' : (g == 0) = false := by rw [beq_eq_false_iff_ne]; exact hg
    have HE := Lib.hid (HB1.out hg)
    have HE2 := Lib.hid (HS.out HE.out)
    have HD : Hid (true = decide (bootE ss = 0)) := by show _ = _; rw [HE.out]; rfl
    have hg1 : 1 ≤ g := by omega
    have hg250 := hbd.2
    clear HB1 HB2 HS hg hbd
    obtain ⟨v0, v1, v2, v3, v4⟩ := hJ.sto.cells
    have hown0 := World.ownsRow_lit (base := w1.heap.size) (e := 9) (size := 1) w1 #[] 0 (Nat.le_refl _) (by unfold maxLen; omega) rfl
    have hBn := below_alloc w1 (.cells #[] 9)
    have hsn : w1.heap.size ≤ (w1.alloc (.cells #[] 9)).heap.size := hBn.size
    go_upto_block 0 with fail
    clear v0 v1 v2 v3 v4
    go_cut [6] (fun s6 wx => ∃ ol cl, s6 = .slice ol (recL ss g).length cl ∧ Rd wx ol (recL ss g).length cl (recL ss g) ∧ RBootI w A oa n cap ss g 0 0 wx)
    case first =>
      obtain ⟨R, hRR⟩ : ∃ R, R = roomN ss := ⟨_, rfl⟩
      have HR := Lib.hid hRR
      have HZ2 : Hid (roomZ ss = (R : Int)) := by show _ = _; rw [hRR]; exact HZ.out
      rw [← hRR] at hR64
      clear hRR
      go_wp2_with fail
      go_loopw [6, 7] (fun s i wr => ∃ (k : Nat) (xs : List ByteArray) (v : Value), v = s ∧ k ≤ R ∧ i = .int .i64 k ∧ wr.ownsRow w1.heap.size 9 1 v k (strCells xs) ∧ Hid (xs.length = k ∧ recL ss g = xs ++ recsN ss g (R - k) k) ∧ Below w1.heap.size w1 wr ∧ Hid (w1.heap.size ≤ wr.heap.size)) (fun _ i _ => R - (intOf i).toNat)
      case atStart => exact ⟨0, [], _, rfl, Nat.zero_le _, rfl, hown0, ⟨rfl, by unfold recL; rw [← HR.out]; rfl⟩, hBn, hsn⟩
      case round =>
        clear hown0 hBn hsn
        obtain ⟨k, xs, v, rfl, hk, rfl, hown, hx, hB, hS⟩ := hrel
        have J := RBootI.stable _ _ _ _ _ _ _ _ _ _ _ hJ hB
        have v0 := cell_of_one J.var
        have hll : ss.length = n := HLN.out
        have HA := Lib.hid (rarea_any oa n cap ss wr hll hn)
        rw [HZ2.out] at HA
        clear hll
        by_cases h8 : k < R
        · have h8i : (k : Int) < (R : Int) := by omega
          go_wp2_with fail
          refine HA.out.mono ?_
          rintro e w2 ⟨rfl, hB2⟩
          have hown2 := own_below' hown hB2
          have hB3 := hB.trans (hB2.mono hS.out)
          have hS3 := Nat.le_trans hS.out hB2.size
          clear hB2 hown J v0 HA hB hS
          obtain ⟨e1, e2, e3⟩ := rec_eq HL.out g k (by have := HR.out; omega)
          obtain ⟨I, hID⟩ : ∃ I : World → Prop, I = fun wx => wx.ownsRow w1.heap.size 9 1 v k (strCells xs) ∧ Below w1.heap.size w1 wx ∧ w1.heap.size ≤ wx.heap.size := ⟨_, rfl⟩
          have st : Hid (Stable I) := by
            rw [hID]
            exact (Stable.own _ _ _ _ _ _).and (fun a b h hB => ⟨h.1.trans (hB.mono h.2), Nat.le_trans h.2 hB.size⟩)
          have hI : I w2.drew := by
            rw [hID]
            exact ⟨hown2, hB3.drew, hS3⟩
          have gI : Hid (∀ wx, I wx → wx.ownsRow w1.heap.size 9 1 v k (strCells xs) ∧ Below w1.heap.size w1 wx ∧ w1.heap.size ≤ wx.heap.size) := by
            intro wx h
            rw [hID] at h
            exact h
          have gJ : Hid (∀ wx, I wx → RBootI w A oa n cap ss g 0 0 wx) := fun wx h => RBootI.stable _ _ _ _ _ _ _ _ _ _ _ hJ (gI.out wx h).2.1
          clear hID
          have gC : ∀ x : Cls I, x.w.cell? ⟨w.heap.size, 0, none⟩ = some (.slice oa n cap) := fun x => cell_of_one (gJ.out _ x.is).var
          have gD : ∀ x : Cls I, x.w.cell? ⟨A, 1, none⟩ = some (.int .i64 g) := fun x => (gJ.out _ x.is).sto.mids.1
          have K1 : Hid (∀ x : Cls I, Calls Try.prog 48 #[.agg #[.slice oa n cap], .int .i64 g, .int .i64 (k : Int)] x.w fun e w'' => e = .returned (.int .i64 (recN ss g k : Int)) ∧ ∃ y : Cls I, w'' = y.w) :=
            fun x => e1 ▸ class_of st.out (rplace_any _ _ _ ss g k _ HLN.out hn (by omega) (by omega) (by omega) (by omega))
          have hsz := sec_max HL.out e2
          have hjn : recN ss g k < n := by have := HLN.out; omega
          have K2 : Hid (∀ x : Cls I, ∀ b, isRecB (secA ss (recN ss g k)) g k = b → Calls Try.prog 47 #[.agg #[.slice oa n cap], .int .i64 (recN ss g k : Int), .int .i64 g, .int .i64 ((k : Int) + 1)] x.w fun e w'' => e = .returned (.tuple #[.string (isP (secA ss (recN ss g k))), .bool b]) ∧ ∃ y : Cls I, w'' = y.w) := by
            intro x b hb
            rw [← hb]
            exact class_of st.out (ris_any oa n cap ss (recN ss g k) g k _ (gJ.out _ x.is).rd hn hjn hsz)
          have P1 : Hid (isRecB (secA ss (recN ss g k)) g k = true → isP (secA ss (recN ss g k)) = pOf (secA ss (recN ss g k))) := fun h => isP_yes ((isRec_iff _ _ _).1 h).1
          have X1 := Lib.hid (recs_yes (ss := ss) (g := g) (i := k) (R := R) h8)
          have X2 := Lib.hid (recs_no (ss := ss) (g := g) (i := k) (R := R))
          clear e1 e2 e3 hsz hjn hown2 hB3 hS3
          haveI : Nonempty (Cls I) := ⟨⟨_, hI⟩⟩
          generalize secA ss (recN ss g k) = T at *
          generalize recN ss g k = j at *
          have hk0 : (0 : Int) ≤ (k : Int) := by omega
          cases hb : isRecB T g k
          · have HBB := Lib.hid hb
            have X3 := Lib.hid (X2.out hb)
            clear hb
            go_wp2_with fail
            refine wp_region_class I (by kernel_rfl) (by kernel_rfl) hI ?_
            repeat (go_big_quiet_step (first | exact K1.out _ | exact K2.out _ _ HBB.out))
            refine wpQuiet_nil ?_
            rintro _ ⟨x, rfl⟩
            obtain ⟨o1, o2, o3⟩ := gI.out _ x.is
            obtain ⟨wx, hwx⟩ := x
            have J2 := gJ.out _ hwx
            dsimp only at o1 o2 o3 J2 ⊢
            have X : Hid (recL ss g = xs) := by have := hx.out.2; rw [X3.out, List.append_nil] at this; exact this
            obtain ⟨ob, cp, rfl, hRd, _⟩ := Rd.of_own hx.out.1 o1
            clear o1 o2 o3 K1 K2 gC gD
            go_wp2_with fail
            go_meet
            case rel =>
              rw [X.out, hx.out.1]
              exact ⟨ob, cp, rfl, hRd, J2⟩
          · have HBB := Lib.hid hb
            have P2 := Lib.hid (P1.out hb)
            have X3 := Lib.hid (X1.out hb)
            clear hb
            rw [P2.out] at K2
            generalize pOf T = p at *
            go_wp2_with fail
            refine wp_region_class I (by kernel_rfl) (by kernel_rfl) hI ?_
            repeat (go_big_quiet_step (first | exact K1.out _ | exact K2.out _ _ HBB.out))
            refine wpQuiet_nil ?_
            rintro _ ⟨x, rfl⟩
            obtain ⟨o1, o2, o3⟩ := gI.out _ x.is
            obtain ⟨wx, hwx⟩ := x
            dsimp only at o1 o2 o3 ⊢
            have hO3 := Lib.hid o3
            clear o3 K1 K2 gC gD
            go_wp2_with (at_builtin; refine wpList_append_own _ rfl _ _ 22 rfl w1.heap.size 9 i0 (.string ⟨#[]⟩) 1 16 Try.underlying22 hi hz0 hz1 hz2 rfl (by decide) _ _ _ rfl (o1.alloc _) ⟨wx.heap.size, 0, none⟩ 1 1 [.string p] rfl rfl (one_new _ _ _) (one_cell _) (by unfold maxLen; omega) (by omega) (by have := hO3.out; simp; omega) ?_; intro v' w3 hown1 hgrow _)
            have Q := grow_row o1 o2 hO3.out hgrow
            rw [← strCells_snoc] at hown1
            have HO1 := Lib.hid hown1
            clear hown1 hgrow o1 o2
            go_wp2_with fail
            go_roundw
            case rel =>
              refine ⟨k + 1, xs ++ [p], _, rfl, by omega, by go_num, HO1.out, ⟨by rw [List.length_append, hx.out.1]; rfl, ?_⟩, Q.1, Q.2⟩
              have := hx.out.2
              rw [X3.out] at this
              rw [this, List.append_assoc]
              rfl
            case measure => simp [intOf]; omega
        · obtain rfl : k = R := by omega
          have X : Hid (recL ss g = xs) := by have := hx.out.2; rw [recs_end _ _ _ _ (Nat.le_refl _), List.append_nil] at this; exact this
          obtain ⟨ob, cp, rfl, hRd, _⟩ := Rd.of_own hx.out.1 hown
          go_wp2_with fail
          refine HA.out.mono ?_
          rintro e w2 ⟨rfl, hB2⟩
          have J2 := RBootI.stable _ _ _ _ _ _ _ _ _ _ _ J hB2
          have hRd2 := hRd.below hB2 (Nat.le_refl _)
          clear hB2 hown J v0 HA hB hS hRd
          go_wp2_with fail
          go_meet
          case rel =>
            rw [X.out, hx.out.1]
            exact ⟨ob, cp, rfl, hRd2, J2⟩
    case rest =>
      obtain ⟨ol, cl, rfl, hRl, hJ2⟩ := hcut
      generalize hw2 : wc = w2 at *
      clear hw2 hJ hown0 hBn hsn
      obtain ⟨l, hl⟩ : ∃ l, l = recL ss g := ⟨_, rfl⟩
      rw [← hl] at hRl ⊢
      have HLL := Lib.hid hl
      have hl64 : l.length ≤ 64 := by
        rw [hl]
        have := recs_most ss g
        omega
      clear hl
      have J3 := (hJ2.set2 (l.length : Int)).set3 g
      have R3 := (hRl.setInt hJ2.sto.mids.2.1 (.int .i64 (l.length : Int))).setInt (hJ2.set2 (l.length : Int)).sto.mids.2.2 (.int .i64 g)
      obtain ⟨v0, v1, v2, v3, v4⟩ := hJ2.sto.cells
      have vf := hJ2.sto.free
      obtain ⟨q0, q1, q2, q3, q4⟩ := (hJ2.set2 (l.length : Int)).sto.cells
      have qf := (hJ2.set2 (l.length : Int)).sto.free
      have d0 := cell_of_one J3.var
      go_wp2_with fail
      obtain ⟨W, hW⟩ : ∃ W, W = (w2.setCell ⟨A, 2, none⟩ (.int .i64 (l.length : Int))).setCell ⟨A, 3, none⟩ (.int .i64 g) := ⟨_, rfl⟩
      rw [← hW] at J3 R3 d0 ⊢
      clear hW v0 v1 v2 v3 v4 vf q0 q1 q2 q3 q4 qf hJ2 hRl
      go_loopw [57] (fun i wr => ∃ k : Nat, k ≤ n ∧ i = .int .i64 k ∧ RBootI w A oa n cap ss g (l.length : Int) (topZ (ss.take k) g) wr ∧ Rd wr ol l.length cl l) (fun i _ => n - (intOf i).toNat)
      case atStart => exact ⟨0, Nat.zero_le _, rfl, J3, R3⟩
      case round =>
        clear J3 R3 d0
        obtain ⟨k, hk, rfl, J, RL⟩ := hrel
        by_cases h8 : k < n
        · obtain ⟨b, rfl, hc⟩ := J.rd.cell k h8
          have hkl : Hid (k < ss.length) := by have := HLN.out; show _ < _; omega
          have hs : Hid ((secA ss k).size = 128) := sec_size HL.out hkl.out
          have hc2 : wr.cell? ⟨b, k, none⟩ = some (.string (secA ss k)) := hc
          clear hc
          obtain ⟨hg1', hg2'⟩ := g_bounds (secA ss k)
          have hix : ∀ V : World, (Instr.index 9 (.string (secA ss k)) (.int .i64 0)).run Try.prog V = .ok (.int .u8 (gOf (secA ss k))) V := fun V => index_run (secA ss k) 0 (by rw [hs.out]; omega) _ rfl V
          have E1 := Lib.hid (top_yes ss k hkl.out g)
          have E2 := Lib.hid (top_no ss k hkl.out g)
          have hkn : (k : Int) < (n : Int) := by omega
          have hk0 : (0 : Int) ≤ (k : Int) := by omega
          obtain ⟨v0, v1, v2, v3, v4⟩ := J.sto.cells
          have vf := J.sto.free
          generalize secA ss k = T at *
          generalize gOf T = x at *
          generalize topZ (ss.take k) g = m at *
          by_cases hx : x ≤ 250
          · have E := E1.out hx
            have HM := Lib.hid E
            clear E
            by_cases hmx : m < x
            · have HX : Hid (max m x = x) := by show _ = _; omega
              have JN := J.set3 x
              have RN := RL.setInt J.sto.mids.2.2 (.int .i64 x)
              clear J RL
              go_wp2
              go_roundw
              case rel => exact ⟨k + 1, by omega, by go_num, by rw [HM.out, HX.out]; exact JN, RN⟩
              case measure => simp [intOf]; omega
            · have HX : Hid (max m x = m) := by show _ = _; omega
              go_wp2
              go_roundw
              case rel => exact ⟨k + 1, by omega, by go_num, by rw [HM.out, HX.out]; exact J, RL⟩
              case measure => simp [intOf]; omega
          · have HM := Lib.hid (E2.out (by omega))
            go_wp2
            go_roundw
            case rel => exact ⟨k + 1, by omega, by go_num, by rw [HM.out]; exact J, RL⟩
            case measure => simp [intOf]; omega
        · obtain rfl : k = n := by omega
          have E := Lib.hid (List.take_of_length_le (l := ss) (i := k) (by have := HLN.out; omega))
          rw [E.out] at J
          have HT : Hid ((⟨ss, g, (l.length : Int), topZ ss g, false⟩ : St) = bootS ss) := by show _ = _; rw [HE2.out.1, HLL.out]
          have HT2 : Hid (l = bootL ss) := by show _ = _; rw [HE2.out.2, HLL.out]
          generalize topZ ss g = tp at *
          obtain ⟨v0, v1, v2, v3, v4⟩ := J.sto.cells
          obtain ⟨p0, p1, p2, p3, p4⟩ := J.res.cells
          have pf := J.res.free
          go_wp2_with fail
          refine tellD_at HT.out HT2.out HD.out ?_
          exact end_rboot rfl rfl rfl rfl J.res ⟨_, _, _, rfl⟩ J.rd RL J.below (by omega)
end Go.Proofs.Ytmjbhmmcpjhmcaa
