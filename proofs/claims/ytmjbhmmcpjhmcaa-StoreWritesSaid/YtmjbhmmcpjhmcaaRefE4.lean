/-
  The document's own answers for a log: one write, with its fault; a record more; all records anew.
-/
import Derived.Test.YtmjbhmmcpjhmcaaRefC4
import Derived.Test.YtmjbhmmcpjhmcaaLogW
import Derived.Test.YtmjbhmmcpjhmcaaOwn4
namespace Go.Proofs.Ytmjbhmmcpjhmcaa
open Go.RowKit
set_option linter.unusedVariables false
attribute [local go_sem ↓] Go.wp_at_zero Go.wp_at_succ

theorem rtear_torn {ss : List ByteArray} (h : logB ss = true) {i : Nat} (hi : i < ss.length) {t : ByteArray} (ht : t.size = 128) {k : Nat} (hk : k ≤ 128) : rtearL ss i t k = tornL ss i t k :=
  ((Good.mk (log_right h) hi ht).ref hk).trans (tear_in h hi ht hk)
theorem SVar.setDisk {w : World} {A : Nat} {oa : Option Addr} {n cap : Nat} {S : St} (h : SVar w A oa n cap S) {ob : Option Addr} {m c : Nat} {ss : List ByteArray} (hR : Rd w ob m c ss) : SVar (w.setCell ⟨A, 0, none⟩ (.slice ob m c)) A ob m c ⟨ss, S.g, S.u, S.t, S.d⟩ :=
  ⟨h.row.set0 _, hR.setDisk h.row.at0 _⟩
theorem SVar.set4 {w : World} {A : Nat} {oa : Option Addr} {n cap : Nat} {S : St} (h : SVar w A oa n cap S) (b : Bool) : SVar (w.setCell ⟨A, 4, none⟩ (.bool b)) A oa n cap ⟨S.ss, S.g, S.u, S.t, b⟩ :=
  ⟨h.row.set4 b, h.rd.setNon h.row.at4 (fun s e => by cases e) _⟩
theorem wr_any1 (ss : List ByteArray) (d : Bool) (a : Nat) (t : ByteArray) (f : Int × Int) : wrM ss d [(a, t)] [f] = if f.1 = 1 then (ss, d, 8) else if f.1 = 2 then (tornL ss a t f.2.toNat, true, 9) else (ss.set a t, d, 0) := by
  unfold wrM
  rfl
set_option maxRecDepth 100000 in
set_option maxHeartbeats 1600000 in
theorem rwr_any (oa : Option Addr) (n cap : Nat) (S : St) (a : Nat) (t : ByteArray) (f : Int × Int) (w : World) (hR : Rd w oa n cap S.ss) (hL : logB S.ss = true) (ha : a < S.ss.length) (ht : t.size = 128) (hf : faultB f = true) :
    Calls Try.prog 56 #[.agg #[.slice oa n cap, .int .i64 S.g, .int .i64 S.u, .int .i64 S.t, .bool S.d], .int .i64 (a : Int), .string t, .agg #[.int .i64 f.1, .int .i64 f.2]] w fun e w' =>
      TellS e w' ⟨(wrM S.ss S.d [(a, t)] [f]).1, S.g, S.u, S.t, (wrM S.ss S.d [(a, t)] [f]).2.1⟩ (wrM S.ss S.d [(a, t)] [f]).2.2 ∧ Below w.heap.size w w' := by
  obtain ⟨W0, hW0⟩ : ∃ W0, W0 = ((w.alloc (.cells #[.slice oa n cap, .int .i64 S.g, .int .i64 S.u, .int .i64 S.t, .bool S.d] 26)).alloc (.cells #[.int .i64 f.1, .int .i64 f.2] 44)).alloc (.cells #[.slice none 0 0, .int .i64 0, .int .i64 0, .int .i64 0, .bool false] 26) := ⟨_, rfl⟩
  have hI : AppI w oa n cap S f W0 := by
    refine ⟨?_, ?_, ?_, ?_⟩
    · rw [hW0]; exact ((SVar.new hR).keep (below_alloc _ _)).keep (below_alloc _ _)
    · rw [hW0, Below.heap_alloc _ _ _ (by simp)]
      have := heap_alloc_new (w.alloc (.cells #[.slice oa n cap, .int .i64 S.g, .int .i64 S.u, .int .i64 S.t, .bool S.d] 26)) (.cells #[.int .i64 f.1, .int .i64 f.2] 44)
      simpa using this
    · unfold SRow
      rw [hW0]
      have := heap_alloc_new ((w.alloc (.cells #[.slice oa n cap, .int .i64 S.g, .int .i64 S.u, .int .i64 S.t, .bool S.d] 26)).alloc (.cells #[.int .i64 f.1, .int .i64 f.2] 44)) (.cells #[.slice none 0 0, .int .i64 0, .int .i64 0, .int .i64 0, .bool false] 26)
      simpa using this
    · rw [hW0]; exact ((below_alloc w _).alloc (by simp) _).alloc (by simp; omega) _
  have hn : n ≤ 1000 ∧ a < n := by have := hR.len; have := (log_bounds hL).2; omega
  obtain ⟨hn, han⟩ := hn
  have hsz := Lib.hid (fun i (hi : i < n) => show (S.ss.getD i ByteArray.empty).size = 128 from right_size (log_right hL) i (by have := hR.len; omega))
  have hw0 : w.heap.size ≤ w.heap.size + 1 + 1 := by omega
  have HW := Lib.hid hW0
  have HE := Lib.hid (wr_any1 S.ss S.d a t f)
  have HT := Lib.hid (fun k (hk : k ≤ 128) => rtear_torn hL ha ht hk)
  have HA := Lib.hid (torn_all hL ha ht)
  obtain ⟨f1, f2, f3, f4⟩ := (fault_iff f).1 hf
  clear hW0 hR hL ha hf
  obtain ⟨c0, c1⟩ := hI.cells
  obtain ⟨v0, v1, v2, v3, v4⟩ := hI.var.cells
  generalize wrM S.ss S.d [(a, t)] [f] = M at *
  by_cases h1 : f.1 = 1
  · have hM : M = (S.ss, S.d, 8) := by rw [HE.out, if_pos h1]
    have b1 : (f.1 == 1) = true := by rw [beq_iff_eq]; exact h1
    have HM := Lib.hid hM
    obtain ⟨p0, p1, p2, p3, p4⟩ := hI.res.cells
    have pf := hI.res.free
    clear hM h1
    go_enter Try.func56, Try.ntmps56
    go_upto_region 1 with fail
    rw [← HW.out]
    clear HW
    go_wp2_with fail
    refine tell_at (S := S) (er := 8) (by rw [HM.out]) (by rw [HM.out]) ?_
    exact end_store rfl rfl rfl hI.res ⟨_, _, _, rfl⟩ hI.var.rd hI.below hw0
  have b1 : (f.1 == 1) = false := by rw [beq_eq_false_iff_ne]; exact h1
  by_cases h2 : f.1 = 2
  · have hM : M = (tornL S.ss a t f.2.toNat, true, 9) := by rw [HE.out, if_neg h1, if_pos h2]
    have b2 : (f.1 == 2) = true := by rw [beq_iff_eq]; exact h2
    have HM := Lib.hid hM
    clear hM h1 h2
    obtain ⟨k, hk⟩ := Int.eq_ofNat_of_zero_le f3
    have hk2 : k ≤ 128 := by omega
    have HK : Hid (tornL S.ss a t f.2.toNat = rtearL S.ss a t k) := by show _ = _; rw [HT.out k hk2, hk]; rfl
    rw [hk] at c1 f3 f4
    clear hk
    go_enter Try.func56, Try.ntmps56
    go_upto_region 1 with fail
    rw [← HW.out]
    clear HW
    go_wp2_with fail
    refine (rtear_any oa n cap S.ss a t k W0 hI.var.rd hn han ht hk2 hsz.out).mono ?_
    rintro e w1 ⟨⟨ob, m, c, rfl, hR1⟩, hB1⟩
    have J := AppI.stable w oa n cap S f _ _ hI hB1
    clear v0 v1 v2 v3 v4 c0 c1 hI hB1
    rw [← HK.out] at hR1
    have V2 := (J.var.setDisk hR1).set4 true
    have R2 := (J.res.far (A := w.heap.size) (by omega) 0 (.slice ob m c)).far (A := w.heap.size) (by omega) 4 (.bool true)
    have B2 := (J.below.setCell (p := ⟨w.heap.size, 0, none⟩) (Nat.le_refl _) (.slice ob m c)).setCell (p := ⟨w.heap.size, 4, none⟩) (Nat.le_refl _) (.bool true)
    obtain ⟨v0, v1, v2, v3, v4⟩ := J.var.cells
    have vf := J.var.row.free
    obtain ⟨x0, x1, x2, x3, x4⟩ := (J.var.setDisk hR1).cells
    dsimp only at x1 x2 x3 x4
    have xf := (J.var.setDisk hR1).row.free
    obtain ⟨q0, q1, q2, q3, q4⟩ := V2.cells
    dsimp only at q1 q2 q3 q4
    obtain ⟨p0, p1, p2, p3, p4⟩ := R2.cells
    have pf := R2.free
    go_wp2_with fail
    refine tell_at (S := ⟨tornL S.ss a t f.2.toNat, S.g, S.u, S.t, true⟩) (er := 9) (by rw [HM.out]) (by rw [HM.out]) ?_
    exact end_store rfl rfl rfl R2 ⟨_, _, _, rfl⟩ V2.rd B2 hw0
  · have hM : M = (S.ss.set a t, S.d, 0) := by rw [HE.out, if_neg h1, if_neg h2]
    have b2 : (f.1 == 2) = false := by rw [beq_eq_false_iff_ne]; exact h2
    have HM := Lib.hid hM
    have HK : Hid (S.ss.set a t = rtearL S.ss a t 128) := by show _ = _; rw [HT.out 128 (Nat.le_refl _), HA.out]
    clear hM h1 h2
    go_enter Try.func56, Try.ntmps56
    go_upto_region 1 with fail
    rw [← HW.out]
    clear HW
    go_wp2_with fail
    refine (rwrite_any oa n cap S.ss a t W0 hI.var.rd hn han ht hsz.out).mono ?_
    rintro e w1 ⟨⟨ob, m, c, rfl, hR1⟩, hB1⟩
    have J := AppI.stable w oa n cap S f _ _ hI hB1
    clear v0 v1 v2 v3 v4 c0 c1 hI hB1
    rw [← HK.out] at hR1
    have V2 := J.var.setDisk hR1
    have R2 := J.res.far (A := w.heap.size) (by omega) 0 (.slice ob m c)
    have B2 := J.below.setCell (p := ⟨w.heap.size, 0, none⟩) (Nat.le_refl _) (.slice ob m c)
    obtain ⟨v0, v1, v2, v3, v4⟩ := J.var.cells
    have vf := J.var.row.free
    obtain ⟨q0, q1, q2, q3, q4⟩ := V2.cells
    dsimp only at q1 q2 q3 q4
    obtain ⟨p0, p1, p2, p3, p4⟩ := R2.cells
    have pf := R2.free
    go_wp2_with fail
    refine tell_at (S := ⟨S.ss.set a t, S.g, S.u, S.t, S.d⟩) (er := 0) (by rw [HM.out]) (by rw [HM.out]) ?_
    exact end_store rfl rfl rfl R2 ⟨_, _, _, rfl⟩ V2.rd B2 hw0
theorem app_fin {w0 w : World} {oa : Option Addr} {n cap : Nat} {S : St} {f : Int × Int} (J : AppI w0 oa n cap S f w) {B : Nat} {x0 : Option Addr} {y0 z0 : Nat} {g0 u0 t0 : Int} {d0 : Bool} (AB : SRow w B (.slice x0 y0 z0) g0 u0 t0 d0) (hlow : w0.heap.size + 1 + 1 < B) {ob : Option Addr} {m c : Nat} {ss : List ByteArray} (hR : Rd w ob m c ss) (g u t : Int) (d : Bool) :
    SVar (put5 w B (.slice ob m c) g u t d) B ob m c ⟨ss, g, u, t, d⟩ ∧ AppI w0 oa n cap S f (put5 w B (.slice ob m c) g u t d) :=
  ⟨⟨AB.put _ _ _ _ _, hR.put AB ⟨_, _, _, rfl⟩ _ _ _ _ _⟩, ⟨⟨J.var.row.aside (by omega) _ _ _ _ _, J.var.rd.put AB ⟨_, _, _, rfl⟩ _ _ _ _ _⟩, (put_other _ _ _ _ _ _ _ _ (by omega)).trans J.fault, J.res.aside (by omega) _ _ _ _ _, put_below J.below (by omega) _ _ _ _ _⟩⟩
set_option maxRecDepth 100000 in
set_option maxHeartbeats 6400000 in
theorem rappend_any (oa : Option Addr) (n cap : Nat) (S : St) (p : ByteArray) (f : Int × Int) (w : World) (hR : Rd w oa n cap S.ss) (hE : appE S p f = 0) (hp : p.size ≤ 96) (hf : faultB f = true) (hS : stoB S.ss S.g S.u S.t = true) (hu : S.u ≠ roomZ S.ss) :
    Calls Try.prog 25 #[.agg #[.slice oa n cap, .int .i64 S.g, .int .i64 S.u, .int .i64 S.t, .bool S.d], .string p, .agg #[.int .i64 f.1, .int .i64 f.2]] w fun e w' => TellS e w' (appS S p f) (appW S p f) ∧ Below w.heap.size w w' := by
  obtain ⟨W0, hW0⟩ : ∃ W0, W0 = ((w.alloc (.cells #[.slice oa n cap, .int .i64 S.g, .int .i64 S.u, .int .i64 S.t, .bool S.d] 26)).alloc (.cells #[.int .i64 f.1, .int .i64 f.2] 44)).alloc (.cells #[.slice none 0 0, .int .i64 0, .int .i64 0, .int .i64 0, .bool false] 26) := ⟨_, rfl⟩
  have hI0 : AppI w oa n cap S f W0 := by
    refine ⟨?_, ?_, ?_, ?_⟩
    · rw [hW0]; exact ((SVar.new hR).keep (below_alloc _ _)).keep (below_alloc _ _)
    · rw [hW0, Below.heap_alloc _ _ _ (by simp)]
      have := heap_alloc_new (w.alloc (.cells #[.slice oa n cap, .int .i64 S.g, .int .i64 S.u, .int .i64 S.t, .bool S.d] 26)) (.cells #[.int .i64 f.1, .int .i64 f.2] 44)
      simpa using this
    · unfold SRow
      rw [hW0]
      have := heap_alloc_new ((w.alloc (.cells #[.slice oa n cap, .int .i64 S.g, .int .i64 S.u, .int .i64 S.t, .bool S.d] 26)).alloc (.cells #[.int .i64 f.1, .int .i64 f.2] 44)) (.cells #[.slice none 0 0, .int .i64 0, .int .i64 0, .int .i64 0, .bool false] 26)
      simpa using this
    · rw [hW0]; exact ((below_alloc w _).alloc (by simp) _).alloc (by simp; omega) _
  have HW := Lib.hid hW0
  obtain ⟨s1, s2, s3, s4, s5, s6, s7⟩ := (sto_iff _ _ _ _).1 hS
  obtain ⟨r1, r2, r3, r4⟩ := room_eq s1
  have hln := hR.len
  have hn : n ≤ 1000 := by omega
  obtain ⟨i, hiu⟩ := Int.eq_ofNat_of_zero_le s4
  have hil : i < roomN S.ss := by omega
  obtain ⟨e1, e2, e3⟩ := rec_eq s1 S.g i hil
  have F := fits_rec (g := S.g) (i := i) (p := p) s2 s3 (by omega) (by omega) hp
  have HM : Hid (appM S p f = wrM S.ss S.d [(recN S.ss S.g i, sealS S.g ((i : Int) + 1) p)] [f]) := by show _ = _; unfold appM; rw [hiu]; rfl
  have KP : Hid (∀ wx, Rd wx oa n cap S.ss → Calls Try.prog 48 #[.agg #[.slice oa n cap], .int .i64 S.g, .int .i64 S.u] wx fun e w' => e = .returned (.int .i64 (recN S.ss S.g i : Int)) ∧ Below wx.heap.size wx w') := by
    intro wx h
    rw [← e1, hiu]
    exact rplace_any oa n cap S.ss S.g i wx hln hn (by omega) (by omega) (by omega) (by omega)
  have KS : Hid (∀ wx, Calls Try.prog 44 #[.int .i64 S.g, .int .i64 (S.u + 1), .string p] wx fun e w' => e = .returned (.string (sealS S.g ((i : Int) + 1) p)) ∧ Below wx.heap.size wx w') := by
    intro wx
    rw [hiu]
    exact rSeal_any S.g ((i : Int) + 1) p wx (by omega) s3 (by omega) (by omega) hp
  have KW : Hid (∀ wx, Rd wx oa n cap S.ss → Calls Try.prog 56 #[.agg #[.slice oa n cap, .int .i64 S.g, .int .i64 S.u, .int .i64 S.t, .bool S.d], .int .i64 (recN S.ss S.g i : Int), .string (sealS S.g ((i : Int) + 1) p), .agg #[.int .i64 f.1, .int .i64 f.2]] wx fun e w' => TellS e w' ⟨(appM S p f).1, S.g, S.u, S.t, (appM S p f).2.1⟩ (appM S p f).2.2 ∧ Below wx.heap.size wx w') := by
    intro wx h
    rw [HM.out]
    exact rwr_any oa n cap S _ _ f wx h s1 e2 F.len hf
  have hub1 : 0 ≤ S.u := s4
  have hub2 : S.u ≤ 1000 := by omega
  have HE1 : Hid (appS S p f = ⟨(appM S p f).1, S.g, if (appM S p f).2.2 = 0 then S.u + 1 else S.u, S.t, (appM S p f).2.1⟩ ∧ appW S p f = (appM S p f).2.2) := by
    show _ ∧ _
    unfold appS appW
    rw [if_pos hE, if_pos hE]
    exact ⟨rfl, rfl⟩
  obtain ⟨I, hID⟩ : ∃ I : World → Prop, I = AppI w oa n cap S f := ⟨_, rfl⟩
  have st : Hid (Stable I) := by rw [hID]; exact AppI.stable w oa n cap S f
  have gI : Hid (∀ wx, I wx → AppI w oa n cap S f wx) := by intro wx h; rw [hID] at h; exact h
  have mI : Hid (∀ wx, AppI w oa n cap S f wx → I wx) := by intro wx h; rw [hID]; exact h
  clear hID hW0 hR hln s1 s2 s3 s4 s5 s6 s7 r1 r2 r3 r4 e1 e2 e3 F HM hil hiu hS hu hE hf
  generalize sealS S.g ((i : Int) + 1) p = tx at *
  generalize recN S.ss S.g i = j at *
  obtain ⟨M, hM⟩ : ∃ M, M = appM S p f := ⟨_, rfl⟩
  rw [← hM] at KW HE1
  clear hM
  go_enter Try.func25, Try.ntmps25
  go_upto_region 1 with fail
  rw [← HW.out]
  clear HW
  go_cut [8, 9] (fun s8 s9 wx => ∃ B ob m c, s8 = .pointer (some ⟨B, 0, none⟩) ∧ s9 = .int .i64 M.2.2 ∧ SVar wx B ob m c ⟨M.1, S.g, S.u, S.t, M.2.1⟩ ∧ AppI w oa n cap S f wx ∧ w.heap.size + 1 + 1 < B)
  case first =>
    refine wp_region_taken I 23 (by kernel_rfl) ?_
    have hI := st.out.drew (mI.out _ hI0)
    clear hI0
    generalize W0.drew = wd at *
    refine wpT_take (i := 0) (v := .agg #[.slice oa n cap, .int .i64 S.g, .int .i64 S.u, .int .i64 S.t, .bool S.d]) rfl (by kernel_rfl) (by kernel_rfl) (by kernel_rfl) (fun _ _ _ h => h) (Or.inl ⟨by rfl, fun v hv => ?_⟩) hI ?_
    · obtain ⟨v0, v1, v2, v3, v4⟩ := (gI.out _ hv).var.cells
      go_simp
    refine wpT_take (i := 1) (v := .pointer (some ⟨w.heap.size, 0, none⟩)) rfl (by kernel_rfl) (by kernel_rfl) (by kernel_rfl) (fun _ _ _ h => h) (Or.inl ⟨by rfl, fun v hv => by go_simp⟩) hI ?_
    refine wpT_take (i := 2) (v := .agg #[.slice oa n cap]) rfl (by kernel_rfl) (by kernel_rfl) (by kernel_rfl) (fun _ _ _ h => h) (Or.inl ⟨by rfl, fun v hv => ?_⟩) hI ?_
    · obtain ⟨v0, v1, v2, v3, v4⟩ := (gI.out _ hv).var.cells
      go_simp
    refine wpT_take (i := 3) (v := .pointer (some ⟨w.heap.size, 1, none⟩)) rfl (by kernel_rfl) (by kernel_rfl) (by kernel_rfl) (fun _ _ _ h => h) (Or.inl ⟨by rfl, fun v hv => by go_simp⟩) hI ?_
    refine wpT_take (i := 4) (v := .int .i64 S.g) rfl (by kernel_rfl) (by kernel_rfl) (by kernel_rfl) (fun _ _ _ h => h) (Or.inl ⟨by rfl, fun v hv => ?_⟩) hI ?_
    · obtain ⟨v0, v1, v2, v3, v4⟩ := (gI.out _ hv).var.cells
      go_simp
    refine wpT_take (i := 5) (v := .pointer (some ⟨w.heap.size, 2, none⟩)) rfl (by kernel_rfl) (by kernel_rfl) (by kernel_rfl) (fun _ _ _ h => h) (Or.inl ⟨by rfl, fun v hv => by go_simp⟩) hI ?_
    refine wpT_take (i := 6) (v := .int .i64 S.u) rfl (by kernel_rfl) (by kernel_rfl) (by kernel_rfl) (fun _ _ _ h => h) (Or.inl ⟨by rfl, fun v hv => ?_⟩) hI ?_
    · obtain ⟨v0, v1, v2, v3, v4⟩ := (gI.out _ hv).var.cells
      go_simp
    refine wpT_take (i := 8) (v := .pointer (some ⟨w.heap.size, 1, none⟩)) rfl (by kernel_rfl) (by kernel_rfl) (by kernel_rfl) (fun _ _ _ h => h) (Or.inl ⟨by rfl, fun v hv => by go_simp⟩) hI ?_
    refine wpT_take (i := 9) (v := .int .i64 S.g) rfl (by kernel_rfl) (by kernel_rfl) (by kernel_rfl) (fun _ _ _ h => h) (Or.inl ⟨by rfl, fun v hv => ?_⟩) hI ?_
    · obtain ⟨v0, v1, v2, v3, v4⟩ := (gI.out _ hv).var.cells
      go_simp
    refine wpT_take (i := 10) (v := .pointer (some ⟨w.heap.size, 2, none⟩)) rfl (by kernel_rfl) (by kernel_rfl) (by kernel_rfl) (fun _ _ _ h => h) (Or.inl ⟨by rfl, fun v hv => by go_simp⟩) hI ?_
    refine wpT_take (i := 11) (v := .int .i64 S.u) rfl (by kernel_rfl) (by kernel_rfl) (by kernel_rfl) (fun _ _ _ h => h) (Or.inl ⟨by rfl, fun v hv => ?_⟩) hI ?_
    · obtain ⟨v0, v1, v2, v3, v4⟩ := (gI.out _ hv).var.cells
      go_simp
    refine wpT_take (i := 12) (v := .int .i64 (S.u + 1)) rfl (by kernel_rfl) (by kernel_rfl) (by kernel_rfl) (fun _ _ _ h => h) (Or.inl ⟨by rfl, fun v hv => ?_⟩) hI ?_
    · go_simp
      exact IntWalk.i64_in _ ⟨by omega, by omega⟩
    refine wpT_take (i := 13) (v := .string p) rfl (by kernel_rfl) (by kernel_rfl) (by kernel_rfl) (fun _ _ _ h => h) (Or.inl ⟨by rfl, fun v hv => by go_simp⟩) hI ?_
    refine wpT_take (i := 15) (v := .agg #[.int .i64 f.1, .int .i64 f.2]) rfl (by kernel_rfl) (by kernel_rfl) (by kernel_rfl) (fun _ _ _ h => h) (Or.inl ⟨by rfl, fun v hv => ?_⟩) hI ?_
    · obtain ⟨v0, v1⟩ := (gI.out _ hv).cells
      go_simp
    refine wpT_ready (rs := [7, 20]) (by kernel_rfl) (by simp) ?_
    refine AllT.cons rfl (fun K hK => ?_) (AllT.cons rfl (fun K hK => ?_) AllT.nil)
    · go_simp
      refine (KP.out _ (gI.out _ hI).var.rd).mono ?_
      rintro e w1 ⟨rfl, hB⟩
      have hI1 := st.out _ _ hI hB
      refine hK _ _ (fun _ => hI1) ?_
      clear hK K hB hI
      have hI := hI1
      clear hI1
      refine wpT_ready (rs := [14, 20]) (by kernel_rfl) (by simp) ?_
      refine AllT.cons rfl (fun K hK => ?_) (AllT.cons rfl (fun K hK => ?_) AllT.nil)
      · go_simp
        refine (KS.out _).mono ?_
        rintro e w2 ⟨rfl, hB⟩
        have hI2 := st.out _ _ hI hB
        refine hK _ _ (fun _ => hI2) ?_
        clear hK K hB hI
        have hI := hI2
        clear hI2
        refine wpT_ready (rs := [16, 20]) (by kernel_rfl) (by simp) ?_
        refine AllT.cons rfl (fun K hK => ?_) (AllT.cons rfl (fun K hK => ?_) AllT.nil)
        · go_simp
          refine (KW.out _ (gI.out _ hI).var.rd).mono ?_
          rintro e w3 ⟨⟨ob, m, c, rfl, hR⟩, hB⟩
          dsimp only at hR ⊢
          have hI3 := st.out _ _ hI hB
          refine hK _ _ (fun _ => hI3) ?_
          clear hK K hB hI
          have hI := hI3
          clear hI3
          refine wpT_take (i := 17) (v := .tuple #[.agg #[.slice ob m c, .int .i64 S.g, .int .i64 S.u, .int .i64 S.t, .bool M.2.1], .int .i64 M.2.2]) rfl (by kernel_rfl) (by kernel_rfl) (by kernel_rfl) (fun _ _ _ h => h) (Or.inl ⟨by rfl, fun v hv => by go_simp⟩) hI ?_
          refine wpT_take (i := 18) (v := .agg #[.slice ob m c, .int .i64 S.g, .int .i64 S.u, .int .i64 S.t, .bool M.2.1]) rfl (by kernel_rfl) (by kernel_rfl) (by kernel_rfl) (fun _ _ _ h => h) (Or.inl ⟨by rfl, fun v hv => by go_simp⟩) hI ?_
          refine wpT_take (i := 19) (v := .int .i64 M.2.2) rfl (by kernel_rfl) (by kernel_rfl) (by kernel_rfl) (fun _ _ _ h => h) (Or.inl ⟨by rfl, fun v hv => by go_simp⟩) hI ?_
          refine wpT_ready (rs := [20]) (by kernel_rfl) (by simp) ?_
          refine AllT.cons rfl (fun K hK => ?_) AllT.nil
          go_simp
          obtain ⟨B, hBd⟩ : ∃ B, B = w3.heap.size := ⟨_, rfl⟩
          have AB : SRow (w3.alloc (.cells #[.slice none 0 0, .int .i64 0, .int .i64 0, .int .i64 0, .bool false] 26)) B (.slice none 0 0) 0 0 0 false := by rw [hBd]; exact heap_alloc_new w3 _
          have hlow : w.heap.size + 1 + 1 < B := by rw [hBd]; exact lt_of_row (gI.out _ hI).res
          have hI4 := st.out _ _ hI (below_alloc w3 (.cells #[.slice none 0 0, .int .i64 0, .int .i64 0, .int .i64 0, .bool false] 26))
          have hR2 := hR.below (below_alloc w3 (.cells #[.slice none 0 0, .int .i64 0, .int .i64 0, .int .i64 0, .bool false] 26)) (Nat.le_refl _)
          rw [← hBd]
          refine hK _ _ (fun _ => hI4) ?_
          clear hK K hI hBd hR
          generalize w3.alloc (.cells #[.slice none 0 0, .int .i64 0, .int .i64 0, .int .i64 0, .bool false] 26) = w4 at *
          have hI := hI4
          clear hI4
          have hR := hR2
          clear hR2
          refine wpT_ready (rs := [21]) (by kernel_rfl) (by simp) ?_
          refine AllT.cons (o := ⟨none, .store 26 (.tmp 8) (.tmp 28), 0, _, _, none⟩) rfl (fun K hK => ?_) AllT.nil
          rw [if_pos (show Region.wanted _ _ = true from rfl)]
          refine wp_store5 rfl rfl AB ?_
          have FIN := Lib.hid (app_fin (gI.out _ hI) AB hlow hR S.g S.u S.t M.2.1)
          generalize put5 w4 B (.slice ob m c) S.g S.u S.t M.2.1 = wf at *
          refine hK _ _ (fun _ => mI.out _ FIN.out.2) ?_
          clear hK K
          refine wpT_ready (rs := [22]) (by kernel_rfl) (by simp) ?_
          refine AllT.cons rfl (fun K hK => ?_) AllT.nil
          go_simp
          refine hK _ _ (fun _ => mI.out _ FIN.out.2) ?_
          clear hK K
          refine wpT_done (by kernel_rfl) ?_ _
          go_wp2_with fail
          go_meet
          case rel => exact ⟨B, ob, m, c, rfl, rfl, FIN.out.1, FIN.out.2, hlow⟩
        · go_simp
          obtain ⟨B, hBd⟩ : ∃ B, B = w2.heap.size := ⟨_, rfl⟩
          have AB : SRow (w2.alloc (.cells #[.slice none 0 0, .int .i64 0, .int .i64 0, .int .i64 0, .bool false] 26)) B (.slice none 0 0) 0 0 0 false := by rw [hBd]; exact heap_alloc_new w2 _
          have hlow : w.heap.size + 1 + 1 < B := by rw [hBd]; exact lt_of_row (gI.out _ hI).res
          have hI3 := st.out _ _ hI (below_alloc w2 (.cells #[.slice none 0 0, .int .i64 0, .int .i64 0, .int .i64 0, .bool false] 26))
          rw [← hBd]
          refine hK _ _ (fun _ => hI3) ?_
          clear hK K hI hBd
          generalize w2.alloc (.cells #[.slice none 0 0, .int .i64 0, .int .i64 0, .int .i64 0, .bool false] 26) = w3 at *
          have hI := hI3
          clear hI3
          refine wpT_ready (rs := [16]) (by kernel_rfl) (by simp) ?_
          refine AllT.cons rfl (fun K hK => ?_) AllT.nil
          go_simp
          refine (KW.out _ (gI.out _ hI).var.rd).mono ?_
          rintro e w4 ⟨⟨ob, m, c, rfl, hR⟩, hB⟩
          dsimp only at hR ⊢
          have hI4 := st.out _ _ hI hB
          have A4 := AB.keep hB
          refine hK _ _ (fun _ => hI4) ?_
          clear hK K hB hI AB
          have hI := hI4
          clear hI4
          have AB := A4
          clear A4
          refine wpT_take (i := 17) (v := .tuple #[.agg #[.slice ob m c, .int .i64 S.g, .int .i64 S.u, .int .i64 S.t, .bool M.2.1], .int .i64 M.2.2]) rfl (by kernel_rfl) (by kernel_rfl) (by kernel_rfl) (fun _ _ _ h => h) (Or.inl ⟨by rfl, fun v hv => by go_simp⟩) hI ?_
          refine wpT_take (i := 18) (v := .agg #[.slice ob m c, .int .i64 S.g, .int .i64 S.u, .int .i64 S.t, .bool M.2.1]) rfl (by kernel_rfl) (by kernel_rfl) (by kernel_rfl) (fun _ _ _ h => h) (Or.inl ⟨by rfl, fun v hv => by go_simp⟩) hI ?_
          refine wpT_take (i := 19) (v := .int .i64 M.2.2) rfl (by kernel_rfl) (by kernel_rfl) (by kernel_rfl) (fun _ _ _ h => h) (Or.inl ⟨by rfl, fun v hv => by go_simp⟩) hI ?_
          refine wpT_ready (rs := [21]) (by kernel_rfl) (by simp) ?_
          refine AllT.cons (o := ⟨none, .store 26 (.tmp 8) (.tmp 28), 0, _, _, none⟩) rfl (fun K hK => ?_) AllT.nil
          rw [if_pos (show Region.wanted _ _ = true from rfl)]
          refine wp_store5 rfl rfl AB ?_
          have FIN := Lib.hid (app_fin (gI.out _ hI) AB hlow hR S.g S.u S.t M.2.1)
          generalize put5 w4 B (.slice ob m c) S.g S.u S.t M.2.1 = wf at *
          refine hK _ _ (fun _ => mI.out _ FIN.out.2) ?_
          clear hK K
          refine wpT_ready (rs := [22]) (by kernel_rfl) (by simp) ?_
          refine AllT.cons rfl (fun K hK => ?_) AllT.nil
          go_simp
          refine hK _ _ (fun _ => mI.out _ FIN.out.2) ?_
          clear hK K
          refine wpT_done (by kernel_rfl) ?_ _
          go_wp2_with fail
          go_meet
          case rel => exact ⟨B, ob, m, c, rfl, rfl, FIN.out.1, FIN.out.2, hlow⟩
      · go_simp
        obtain ⟨B, hBd⟩ : ∃ B, B = w1.heap.size := ⟨_, rfl⟩
        have AB : SRow (w1.alloc (.cells #[.slice none 0 0, .int .i64 0, .int .i64 0, .int .i64 0, .bool false] 26)) B (.slice none 0 0) 0 0 0 false := by rw [hBd]; exact heap_alloc_new w1 _
        have hlow : w.heap.size + 1 + 1 < B := by rw [hBd]; exact lt_of_row (gI.out _ hI).res
        have hI2 := st.out _ _ hI (below_alloc w1 (.cells #[.slice none 0 0, .int .i64 0, .int .i64 0, .int .i64 0, .bool false] 26))
        rw [← hBd]
        refine hK _ _ (fun _ => hI2) ?_
        clear hK K hI hBd
        generalize w1.alloc (.cells #[.slice none 0 0, .int .i64 0, .int .i64 0, .int .i64 0, .bool false] 26) = w2 at *
        have hI := hI2
        clear hI2
        refine wpT_ready (rs := [14]) (by kernel_rfl) (by simp) ?_
        refine AllT.cons rfl (fun K hK => ?_) AllT.nil
        go_simp
        refine (KS.out _).mono ?_
        rintro e w3 ⟨rfl, hB⟩
        have hI3 := st.out _ _ hI hB
        have A3 := AB.keep hB
        refine hK _ _ (fun _ => hI3) ?_
        clear hK K hB hI AB
        have hI := hI3
        clear hI3
        have AB := A3
        clear A3
        refine wpT_ready (rs := [16]) (by kernel_rfl) (by simp) ?_
        refine AllT.cons rfl (fun K hK => ?_) AllT.nil
        go_simp
        refine (KW.out _ (gI.out _ hI).var.rd).mono ?_
        rintro e w4 ⟨⟨ob, m, c, rfl, hR⟩, hB⟩
        dsimp only at hR ⊢
        have hI4 := st.out _ _ hI hB
        have A4 := AB.keep hB
        refine hK _ _ (fun _ => hI4) ?_
        clear hK K hB hI AB
        have hI := hI4
        clear hI4
        have AB := A4
        clear A4
        refine wpT_take (i := 17) (v := .tuple #[.agg #[.slice ob m c, .int .i64 S.g, .int .i64 S.u, .int .i64 S.t, .bool M.2.1], .int .i64 M.2.2]) rfl (by kernel_rfl) (by kernel_rfl) (by kernel_rfl) (fun _ _ _ h => h) (Or.inl ⟨by rfl, fun v hv => by go_simp⟩) hI ?_
        refine wpT_take (i := 18) (v := .agg #[.slice ob m c, .int .i64 S.g, .int .i64 S.u, .int .i64 S.t, .bool M.2.1]) rfl (by kernel_rfl) (by kernel_rfl) (by kernel_rfl) (fun _ _ _ h => h) (Or.inl ⟨by rfl, fun v hv => by go_simp⟩) hI ?_
        refine wpT_take (i := 19) (v := .int .i64 M.2.2) rfl (by kernel_rfl) (by kernel_rfl) (by kernel_rfl) (fun _ _ _ h => h) (Or.inl ⟨by rfl, fun v hv => by go_simp⟩) hI ?_
        refine wpT_ready (rs := [21]) (by kernel_rfl) (by simp) ?_
        refine AllT.cons (o := ⟨none, .store 26 (.tmp 8) (.tmp 28), 0, _, _, none⟩) rfl (fun K hK => ?_) AllT.nil
        rw [if_pos (show Region.wanted _ _ = true from rfl)]
        refine wp_store5 rfl rfl AB ?_
        have FIN := Lib.hid (app_fin (gI.out _ hI) AB hlow hR S.g S.u S.t M.2.1)
        generalize put5 w4 B (.slice ob m c) S.g S.u S.t M.2.1 = wf at *
        refine hK _ _ (fun _ => mI.out _ FIN.out.2) ?_
        clear hK K
        refine wpT_ready (rs := [22]) (by kernel_rfl) (by simp) ?_
        refine AllT.cons rfl (fun K hK => ?_) AllT.nil
        go_simp
        refine hK _ _ (fun _ => mI.out _ FIN.out.2) ?_
        clear hK K
        refine wpT_done (by kernel_rfl) ?_ _
        go_wp2_with fail
        go_meet
        case rel => exact ⟨B, ob, m, c, rfl, rfl, FIN.out.1, FIN.out.2, hlow⟩
    · go_simp
      obtain ⟨B, hBd⟩ : ∃ B, B = wd.heap.size := ⟨_, rfl⟩
      have AB : SRow (wd.alloc (.cells #[.slice none 0 0, .int .i64 0, .int .i64 0, .int .i64 0, .bool false] 26)) B (.slice none 0 0) 0 0 0 false := by rw [hBd]; exact heap_alloc_new wd _
      have hlow : w.heap.size + 1 + 1 < B := by rw [hBd]; exact lt_of_row (gI.out _ hI).res
      have hI1 := st.out _ _ hI (below_alloc wd (.cells #[.slice none 0 0, .int .i64 0, .int .i64 0, .int .i64 0, .bool false] 26))
      rw [← hBd]
      refine hK _ _ (fun _ => hI1) ?_
      clear hK K hI hBd
      generalize wd.alloc (.cells #[.slice none 0 0, .int .i64 0, .int .i64 0, .int .i64 0, .bool false] 26) = w1 at *
      have hI := hI1
      clear hI1
      refine wpT_ready (rs := [7]) (by kernel_rfl) (by simp) ?_
      refine AllT.cons rfl (fun K hK => ?_) AllT.nil
      go_simp
      refine (KP.out _ (gI.out _ hI).var.rd).mono ?_
      rintro e w2 ⟨rfl, hB⟩
      have hI2 := st.out _ _ hI hB
      have A2 := AB.keep hB
      refine hK _ _ (fun _ => hI2) ?_
      clear hK K hB hI AB
      have hI := hI2
      clear hI2
      have AB := A2
      clear A2
      refine wpT_ready (rs := [14]) (by kernel_rfl) (by simp) ?_
      refine AllT.cons rfl (fun K hK => ?_) AllT.nil
      go_simp
      refine (KS.out _).mono ?_
      rintro e w3 ⟨rfl, hB⟩
      have hI3 := st.out _ _ hI hB
      have A3 := AB.keep hB
      refine hK _ _ (fun _ => hI3) ?_
      clear hK K hB hI AB
      have hI := hI3
      clear hI3
      have AB := A3
      clear A3
      refine wpT_ready (rs := [16]) (by kernel_rfl) (by simp) ?_
      refine AllT.cons rfl (fun K hK => ?_) AllT.nil
      go_simp
      refine (KW.out _ (gI.out _ hI).var.rd).mono ?_
      rintro e w4 ⟨⟨ob, m, c, rfl, hR⟩, hB⟩
      dsimp only at hR ⊢
      have hI4 := st.out _ _ hI hB
      have A4 := AB.keep hB
      refine hK _ _ (fun _ => hI4) ?_
      clear hK K hB hI AB
      have hI := hI4
      clear hI4
      have AB := A4
      clear A4
      refine wpT_take (i := 17) (v := .tuple #[.agg #[.slice ob m c, .int .i64 S.g, .int .i64 S.u, .int .i64 S.t, .bool M.2.1], .int .i64 M.2.2]) rfl (by kernel_rfl) (by kernel_rfl) (by kernel_rfl) (fun _ _ _ h => h) (Or.inl ⟨by rfl, fun v hv => by go_simp⟩) hI ?_
      refine wpT_take (i := 18) (v := .agg #[.slice ob m c, .int .i64 S.g, .int .i64 S.u, .int .i64 S.t, .bool M.2.1]) rfl (by kernel_rfl) (by kernel_rfl) (by kernel_rfl) (fun _ _ _ h => h) (Or.inl ⟨by rfl, fun v hv => by go_simp⟩) hI ?_
      refine wpT_take (i := 19) (v := .int .i64 M.2.2) rfl (by kernel_rfl) (by kernel_rfl) (by kernel_rfl) (fun _ _ _ h => h) (Or.inl ⟨by rfl, fun v hv => by go_simp⟩) hI ?_
      refine wpT_ready (rs := [21]) (by kernel_rfl) (by simp) ?_
      refine AllT.cons (o := ⟨none, .store 26 (.tmp 8) (.tmp 28), 0, _, _, none⟩) rfl (fun K hK => ?_) AllT.nil
      rw [if_pos (show Region.wanted _ _ = true from rfl)]
      refine wp_store5 rfl rfl AB ?_
      have FIN := Lib.hid (app_fin (gI.out _ hI) AB hlow hR S.g S.u S.t M.2.1)
      generalize put5 w4 B (.slice ob m c) S.g S.u S.t M.2.1 = wf at *
      refine hK _ _ (fun _ => mI.out _ FIN.out.2) ?_
      clear hK K
      refine wpT_ready (rs := [22]) (by kernel_rfl) (by simp) ?_
      refine AllT.cons rfl (fun K hK => ?_) AllT.nil
      go_simp
      refine hK _ _ (fun _ => mI.out _ FIN.out.2) ?_
      clear hK K
      refine wpT_done (by kernel_rfl) ?_ _
      go_wp2_with fail
      go_meet
      case rel => exact ⟨B, ob, m, c, rfl, rfl, FIN.out.1, FIN.out.2, hlow⟩
  case rest =>
    obtain ⟨B, ob, m, c, rfl, rfl, V, J, hlow⟩ := hcut
    clear hI0 KP KS KW
    generalize wc = w1 at *
    have hw0 : w.heap.size ≤ w.heap.size + 1 + 1 := by omega
    by_cases hz : M.2.2 = 0
    · have HF : Hid (appS S p f = ⟨M.1, S.g, S.u + 1, S.t, M.2.1⟩ ∧ appW S p f = 0) := by
        show _ ∧ _
        rw [HE1.out.1, HE1.out.2, hz, if_pos rfl]
        exact ⟨rfl, rfl⟩
      rw [hz]
      have HZ := Lib.hid hz
      clear hz
      have V2 := V.set2 (S.u + 1)
      have R2 := J.res.far (A := B) (by omega) 2 (.int .i64 (S.u + 1))
      have B2 := J.below.setCell (p := ⟨B, 2, none⟩) (by show w.heap.size ≤ B; omega) (.int .i64 (S.u + 1))
      obtain ⟨v0, v1, v2, v3, v4⟩ := J.var.cells
      obtain ⟨y0, y1, y2, y3, y4⟩ := V.cells
      dsimp only at y1 y2 y3 y4
      have yf := V.row.free
      obtain ⟨q0, q1, q2, q3, q4⟩ := V2.cells
      dsimp only at q1 q2 q3 q4
      obtain ⟨p0, p1, p2, p3, p4⟩ := R2.cells
      have pf := R2.free
      go_wp2_with fail
      refine tell_at HF.out.1.symm HF.out.2.symm ?_
      exact end_store rfl rfl rfl R2 ⟨_, _, _, rfl⟩ V2.rd B2 hw0
    · have HF : Hid (appS S p f = ⟨M.1, S.g, S.u, S.t, M.2.1⟩ ∧ appW S p f = M.2.2) := by
        show _ ∧ _
        rw [HE1.out.1, HE1.out.2, if_neg hz]
        exact ⟨rfl, rfl⟩
      have hz' : (M.2.2 == 0) = false := by rw [beq_eq_false_iff_ne]; exact hz
      clear hz
      obtain ⟨y0, y1, y2, y3, y4⟩ := V.cells
      dsimp only at y1 y2 y3 y4
      obtain ⟨p0, p1, p2, p3, p4⟩ := J.res.cells
      have pf := J.res.free
      go_wp2_with fail
      refine tell_at HF.out.1.symm HF.out.2.symm ?_
      exact end_store rfl rfl rfl J.res ⟨_, _, _, rfl⟩ V.rd J.below hw0
end Go.Proofs.Ytmjbhmmcpjhmcaa
namespace Go.Proofs.Ytmjbhmmcpjhmcaa
open Go.RowKit
set_option linter.unusedVariables false
attribute [local go_sem ↓] Go.wp_at_zero Go.wp_at_succ

theorem wr_cons0 {ss : List ByteArray} {d : Bool} {a : Nat} {t : ByteArray} {ps : List (Nat × ByteArray)} {fs : List (Int × Int)} (h : (wrM ss d [(a, t)] [fs.getD 0 (0, 0)]).2.2 = 0) :
    wrM ss d ((a, t) :: ps) fs = wrM (ss.set a t) d ps (fs.drop 1) ∧ wrM ss d [(a, t)] [fs.getD 0 (0, 0)] = (ss.set a t, d, 0) := by
  rw [wr_any1] at h ⊢
  generalize hf : fs.getD 0 (0, 0) = f at *
  by_cases h1 : f.1 = 1
  · rw [if_pos h1] at h
    exact absurd h (show ¬ (8 : Int) = 0 by decide)
  · rw [if_neg h1] at h ⊢
    by_cases h2 : f.1 = 2
    · rw [if_pos h2] at h
      exact absurd h (show ¬ (9 : Int) = 0 by decide)
    · rw [if_neg h2]
      refine ⟨?_, rfl⟩
      show (if (fs.getD 0 (0, 0)).1 = 1 then _ else if (fs.getD 0 (0, 0)).1 = 2 then _ else _) = _
      rw [hf, if_neg h1, if_neg h2]
theorem wr_cons1 {ss : List ByteArray} {d : Bool} {a : Nat} {t : ByteArray} {ps : List (Nat × ByteArray)} {fs : List (Int × Int)} (h : (wrM ss d [(a, t)] [fs.getD 0 (0, 0)]).2.2 ≠ 0) :
    wrM ss d ((a, t) :: ps) fs = wrM ss d [(a, t)] [fs.getD 0 (0, 0)] := by
  rw [wr_any1] at h ⊢
  generalize hf : fs.getD 0 (0, 0) = f at *
  show (if (fs.getD 0 (0, 0)).1 = 1 then _ else if (fs.getD 0 (0, 0)).1 = 2 then _ else _) = _
  rw [hf]
  by_cases h1 : f.1 = 1
  · rw [if_pos h1, if_pos h1]
  · rw [if_neg h1] at h ⊢
    by_cases h2 : f.1 = 2
    · rw [if_pos h2, if_neg h1, if_pos h2]
    · rw [if_neg h2] at h
      exact absurd rfl h
theorem drop_getD {α : Type} (l : List α) (k : Nat) (d : α) : (l.drop k).getD 0 d = l.getD k d := by
  rw [List.getD_eq_getElem?_getD, List.getElem?_drop, Nat.add_zero, List.getD_eq_getElem?_getD]
theorem pages_drop (ss : List ByteArray) (g : Int) (l : List ByteArray) (k : Nat) (h : k ≤ l.length) : (pagesG ss g l).drop k = pageG ss g l k :: (pagesG ss g l).drop (k + 1) := by
  have hl := pages_length ss g l
  rw [List.drop_eq_getElem_cons (by omega)]
  have := pages_at ss g l k h
  rw [List.getD_eq_getElem?_getD, List.getElem?_eq_getElem (by omega)] at this
  rw [← this]
  rfl
/-- where a turn stands behind so many writes -/
structure Step (S : St) (h : Int) (l : List ByteArray) (fs : List (Int × Int)) (k : Nat) (ss : List ByteArray) : Prop where
  len : ss.length = S.ss.length
  log : logB ss = true
  rest : wrM S.ss S.d (pagesG S.ss h l) fs = wrM ss S.d ((pagesG S.ss h l).drop k) (fs.drop k)
theorem Step.next {S : St} {h : Int} {l : List ByteArray} {fs : List (Int × Int)} {k : Nat} {ss : List ByteArray} (H : Step S h l fs k ss) (hk : k ≤ l.length) {a : Nat} {t : ByteArray} (hp : pageG S.ss h l k = (a, t)) (ht : t.size = 128) (hz : (wrM ss S.d [(a, t)] [fs.getD k (0, 0)]).2.2 = 0) :
    Step S h l fs (k + 1) (ss.set a t) ∧ wrM ss S.d [(a, t)] [fs.getD k (0, 0)] = (ss.set a t, S.d, 0) := by
  have hr := H.rest
  rw [pages_drop _ _ _ _ hk, hp] at hr
  rw [← drop_getD] at hz ⊢
  obtain ⟨h1, h2⟩ := wr_cons0 (ps := (pagesG S.ss h l).drop (k + 1)) hz
  rw [h1, List.drop_drop] at hr
  exact ⟨⟨by rw [List.length_set]; exact H.len, log_set H.log a ht, hr⟩, h2⟩
theorem Step.stop {S : St} {h : Int} {l : List ByteArray} {fs : List (Int × Int)} {k : Nat} {ss : List ByteArray} (H : Step S h l fs k ss) (hk : k ≤ l.length) {a : Nat} {t : ByteArray} (hp : pageG S.ss h l k = (a, t)) (hz : (wrM ss S.d [(a, t)] [fs.getD k (0, 0)]).2.2 ≠ 0) :
    wrM S.ss S.d (pagesG S.ss h l) fs = wrM ss S.d [(a, t)] [fs.getD k (0, 0)] := by
  have hr := H.rest
  rw [pages_drop _ _ _ _ hk, hp] at hr
  rw [← drop_getD] at hz ⊢
  rw [hr, wr_cons1 hz]
theorem Step.done {S : St} {h : Int} {l : List ByteArray} {fs : List (Int × Int)} {ss : List ByteArray} (H : Step S h l fs (l.length + 1) ss) : wrM S.ss S.d (pagesG S.ss h l) fs = (ss, S.d, 0) := by
  rw [H.rest, List.drop_of_length_le (by rw [pages_length]; exact Nat.le_refl _)]
  rfl
theorem fault_at4 {fs : List (Int × Int)} (h : ∀ f ∈ fs, faultB f = true) (k : Nat) : faultB (fs.getD k (0, 0)) = true := by
  rw [List.getD_eq_getElem?_getD]
  by_cases hk : k < fs.length
  · rw [List.getElem?_eq_getElem hk]
    exact h _ (List.getElem_mem hk)
  · rw [List.getElem?_eq_none (by omega)]
    rfl
theorem turn_parts {S : St} {l : List ByteArray} {fs : List (Int × Int)} (hE : turnE S l fs = 0) {M : List ByteArray × Bool × Int} (hM : wrM S.ss S.d (pagesG S.ss (nextZ S.g S.t) l) fs = M) :
    turnS S l fs = ⟨M.1, if M.2.2 = 0 then nextZ S.g S.t else S.g, if M.2.2 = 0 then (l.length : Int) else S.u, nextZ S.g S.t, M.2.1⟩ ∧ turnW S l fs = M.2.2 := by
  unfold turnS turnW turnM
  rw [if_pos hE, if_pos hE, hM]
  exact ⟨rfl, rfl⟩
set_option maxRecDepth 100000 in
set_option maxHeartbeats 6400000 in
theorem rturn_any (oa : Option Addr) (n cap : Nat) (S : St) (ol : Option Addr) (nl cl : Nat) (l : List ByteArray) (of : Option Addr) (nf cf : Nat) (fs : List (Int × Int)) (w : World) (hR : Rd w oa n cap S.ss) (hA : ARd w ol nl cl l) (hF : FRd w of nf cf fs) (hnf : nf ≤ 1000)
    (hE : turnE S l fs = 0) (hS : stoB S.ss S.g S.u S.t = true) (hf : ∀ f ∈ fs, faultB f = true) (hs : ∀ p ∈ l, p.size ≤ 96) (hml : l.length ≤ roomN S.ss) (hm : nextZ S.g S.t ≤ 250) :
    Calls Try.prog 29 #[.agg #[.slice oa n cap, .int .i64 S.g, .int .i64 S.u, .int .i64 S.t, .bool S.d], .slice ol nl cl, .slice of nf cf] w fun e w' => TellS e w' (turnS S l fs) (turnW S l fs) ∧ Below w.heap.size w w' := by
  obtain ⟨W0, hW0⟩ : ∃ W0, W0 = (w.alloc (.cells #[.slice oa n cap, .int .i64 S.g, .int .i64 S.u, .int .i64 S.t, .bool S.d] 26)).alloc (.cells #[.slice none 0 0, .int .i64 0, .int .i64 0, .int .i64 0, .bool false] 26) := ⟨_, rfl⟩
  have hI : TurnI w oa n cap S W0 := by
    refine ⟨?_, ?_, ?_⟩
    · rw [hW0]; exact (SVar.new hR).keep (below_alloc _ _)
    · unfold SRow
      rw [hW0]
      have := heap_alloc_new (w.alloc (.cells #[.slice oa n cap, .int .i64 S.g, .int .i64 S.u, .int .i64 S.t, .bool S.d] 26)) (.cells #[.slice none 0 0, .int .i64 0, .int .i64 0, .int .i64 0, .bool false] 26)
      simpa using this
    · rw [hW0]; exact (below_alloc w _).alloc (by simp) _
  have HW := Lib.hid hW0
  obtain ⟨s1, s2, s3, s4, s5, s6, s7⟩ := (sto_iff _ _ _ _).1 hS
  obtain ⟨r1, r2, r3, r4⟩ := room_eq s1
  have hnx := next_gt S.g S.t
  have hll := hA.len
  have hfl := hF.len
  have hnl : nl ≤ 64 := by omega
  have HT := Lib.hid (fun M h => turn_parts (M := M) hE h)
  have HST0 : Hid (Step S (nextZ S.g S.t) l fs 0 S.ss) := ⟨rfl, s1, rfl⟩
  have HNX := Lib.hid (fun x => rnext_any x S.g S.u S.t S.d)
  have hg0 : 0 ≤ S.g := by omega
  have hg1 : S.g ≤ 1000 := by omega
  have ht0 : 0 ≤ S.t := by omega
  have ht1 : S.t ≤ 900 := by omega
  have hh0 : 1 ≤ nextZ S.g S.t := by omega
  have HPG := Lib.hid (fun k => show pageG S.ss (nextZ S.g S.t) l k = _ from rfl)
  have HL1 := Lib.hid s1
  have HRM : Hid (l.length ≤ roomN S.ss) := hml
  have hS64 : S.ss.length ≤ 130 := by omega
  have HSS := Lib.hid hs
  have HFF := Lib.hid hf
  have HLL := Lib.hid hll
  have HFL := Lib.hid hfl
  have HR4 := Lib.hid r4
  clear hW0 hR hS s1 s2 s3 s4 s5 s6 s7 r1 r2 r3 r4 hnx hE hml hs hf hll hfl
  obtain ⟨h, hh⟩ : ∃ h, nextZ S.g S.t = h := ⟨_, rfl⟩
  rw [hh] at HT HST0 HNX hh0 hm HPG
  clear hh
  have hh1 : 0 ≤ h := by omega
  have HHD : Hid (h % 2 = (hdN h : Int)) := by show _ = _; unfold hdN; omega
  have hw0 : w.heap.size ≤ w.heap.size + 1 := by omega
  obtain ⟨v0, v1, v2, v3, v4⟩ := hI.var.cells
  go_enter Try.func29, Try.ntmps29
  go_upto_region 1 with fail
  rw [← HW.out]
  clear HW
  go_wp2_with fail
  refine (HNX.out _ _ rfl hg0 hg1 ht0 ht1).mono ?_
  rintro e w1 ⟨rfl, hB1⟩
  have hI1 := TurnI.stable w oa n cap S _ _ hI hB1
  have hI2 := hI1.top h
  clear v0 v1 v2 v3 v4 hI hB1 HNX
  obtain ⟨v0, v1, v2, v3, v4⟩ := hI1.var.cells
  have vf := hI1.var.row.free
  go_wp2_with fail
  obtain ⟨w2, hw2⟩ : ∃ w2, w2 = w1.setCell ⟨w.heap.size, 3, none⟩ (.int .i64 h) := ⟨_, rfl⟩
  rw [← hw2] at hI2 ⊢
  clear hw2 v0 v1 v2 v3 v4 vf hI1
  have RES := hI2.res
  have VAR := hI2.var
  have BEL := hI2.below
  clear hI2
  go_loopw [9] (fun i wr => ∃ (k : Nat) (ss : List ByteArray) (ob : Option Addr) (m c : Nat), k ≤ nl + 1 ∧ i = .int .i64 k ∧ SVar wr w.heap.size ob m c ⟨ss, S.g, S.u, h, S.d⟩ ∧ SRow wr (w.heap.size + 1) (.slice none 0 0) 0 0 0 false ∧ Below w.heap.size w wr ∧ Hid (Step S h l fs k ss)) (fun i _ => nl + 1 - (intOf i).toNat)
  case atStart => exact ⟨0, S.ss, _, _, _, Nat.zero_le _, rfl, VAR, RES, BEL, HST0⟩
  case round =>
    clear RES VAR BEL HST0
    obtain ⟨k, ss, ob, m, c, hk, rfl, V, R, B, HST⟩ := hrel
    have hmn : m ≤ 1000 := by have h1 := V.rd.len; have h2 := HST.out.len; dsimp only at h1; omega
    by_cases h8 : k ≤ nl
    · have HSZ : Hid (k ≤ l.length) := by show _ ≤ _; rw [HLL.out]; exact h8
      have HFA := Lib.hid (fault_at4 HFF.out k)
      have h8i : (k : Int) ≤ (nl : Int) := by omega
      have hk0 : (0 : Int) ≤ (k : Int) := by omega
      have hx : (∃ x y g o, (fs.getD k (0, 0)) = (x, y) ∧ of = some ⟨g, o, none⟩ ∧ (wr.alloc (.cells #[.int .i64 0, .int .i64 0] 44)).cell? ⟨g, o + k * 2, none⟩ = some (.int .i64 x) ∧ (wr.alloc (.cells #[.int .i64 0, .int .i64 0] 44)).cell? ⟨g, o + k * 2 + 1, none⟩ = some (.int .i64 y) ∧ (k : Int) < (nf : Int)) ∨ (fs.getD k (0, 0) = (0, 0) ∧ ¬ (k : Int) < (nf : Int)) := by
        by_cases hkf : k < nf
        · left
          obtain ⟨g, o, h1, h2, h3⟩ := (hF.below B (Nat.le_refl _)).cell k hkf
          exact ⟨_, _, g, o, rfl, h1, keepC (below_alloc _ _) h2, keepC (below_alloc _ _) h3, by omega⟩
        · right
          refine ⟨?_, by omega⟩
          rw [List.getD_eq_getElem?_getD, List.getElem?_eq_none (by rw [HFL.out]; omega)]
          rfl
      rcases hx with ⟨x, y, g, o, hfx, rfl, c0, c1, hkf⟩ | ⟨hfx, hkf⟩
      all_goals
        have HFX := Lib.hid hfx
        clear hfx
        obtain ⟨v0, v1, v2, v3, v4⟩ := V.cells
        dsimp only at v1 v2 v3 v4
        have HSE := Lib.hid (fun wx => rSeal_any h 0 ⟨#[]⟩ wx hh1 hm (by omega) (by omega) (by decide))
        go_wp2_with fail
        refine (HSE.out _).mono ?_
        rintro e w3 ⟨rfl, hB3⟩
        have V3 := (V.keep (below_alloc wr _)).keep hB3
        have R3 := (R.keep (below_alloc wr _)).keep hB3
        have F3 := keepB hB3 (heap_alloc_new wr _)
        have B3 := (B.alloc B.size _).trans (hB3.mono (B.alloc B.size _).size)
        try clear c0 c1
        clear V R B hB3 v0 v1 v2 v3 v4 HSE
        by_cases h9 : k < nl
        · obtain ⟨b, off, rfl, hc⟩ := (hA.below B3).cell k h9
          have h9i : (k : Int) < (nl : Int) := by omega
          have hsz := HSS.out (l.getD k ByteArray.empty) (getD_mem4 (by rw [HLL.out]; exact h9))
          have hil : k < roomN ss := by have h1 := room_same HST.out.len; have h2 := HRM.out; have h3 := HLL.out; omega
          have hr64 : k < 64 := by omega
          obtain ⟨e1, e2, e3⟩ := rec_eq HST.out.log h k hil
          have FT := fits_rec (g := h) (i := k) (p := l.getD k ByteArray.empty) hh0 hm (by omega) (by omega) hsz
          have HP : Hid (pageG S.ss h l k = (recN ss h k, sealS h ((k : Int) + 1) (l.getD k ByteArray.empty))) := by
            show _ = _
            unfold pageG
            rw [if_pos (by rw [HLL.out]; exact h9), rec_same HST.out.len]
            rfl
          have HTS := Lib.hid FT.len
          have hln : ss.length = m := V3.rd.len
          have KP : Hid (∀ wx, Calls Try.prog 48 #[.agg #[.slice ob m c], .int .i64 h, .int .i64 (k : Int)] wx fun e w' => e = .returned (.int .i64 (recN ss h k : Int)) ∧ Below wx.heap.size wx w') := by
            intro wx
            rw [← e1]
            exact rplace_any ob m c ss h k wx hln hmn hh1 (by omega) (by omega) (by omega)
          have KS : Hid (∀ wx, Calls Try.prog 44 #[.int .i64 h, .int .i64 ((k : Int) + 1), .string (l.getD k ByteArray.empty)] wx fun e w' => e = .returned (.string (sealS h ((k : Int) + 1) (l.getD k ByteArray.empty))) ∧ Below wx.heap.size wx w') :=
            fun wx => rSeal_any h ((k : Int) + 1) _ wx hh1 hm (by omega) (by omega) hsz
          have KW := Lib.hid (fun wx hx => rwr_any ob m c ⟨ss, S.g, S.u, h, S.d⟩ (recN ss h k) (sealS h ((k : Int) + 1) (l.getD k ByteArray.empty)) (fs.getD k (0, 0)) wx hx HST.out.log e2 FT.len HFA.out)
          clear e1 e2 e3 FT hil hln hsz
          generalize recN ss h k = j at *
          generalize sealS h ((k : Int) + 1) (l.getD k ByteArray.empty) = tx at *
          generalize l.getD k ByteArray.empty = p at *
          obtain ⟨M, hM⟩ : ∃ M, M = wrM ss S.d [(j, tx)] [fs.getD k (0, 0)] := ⟨_, rfl⟩
          dsimp only at KW
          rw [← hM, HFX.out] at KW
          dsimp only at KW
          have HM := Lib.hid hM
          clear hM
          obtain ⟨v0, v1, v2, v3, v4⟩ := V3.cells
          dsimp only at v1 v2 v3 v4
          go_wp2_with fail
          refine (KP.out _).mono ?_
          rintro e w4 ⟨rfl, hB4⟩
          have V4 := V3.keep hB4
          have R4 := R3.keep hB4
          have F4 := keepB hB4 F3
          have B4 := B3.trans (hB4.mono B3.size)
          have hc4 := keepC hB4 hc
          clear V3 R3 F3 B3 hc hB4 v0 v1 v2 v3 v4 KP
          go_wp2_with fail
          refine (KS.out _).mono ?_
          rintro e w5 ⟨rfl, hB5⟩
          have V5 := V4.keep hB5
          have R5 := R4.keep hB5
          have F5 := keepB hB5 F4
          have B5 := B4.trans (hB5.mono B4.size)
          clear V4 R4 F4 B4 hc4 hB5 KS
          obtain ⟨v0, v1, v2, v3, v4⟩ := V5.cells
          dsimp only at v1 v2 v3 v4
          have c0 := cell_of_row _ _ 0 _ _ _ F5
          have c1 := cell_of_row _ _ 1 _ _ _ F5
          simp only [List.getElem?_toArray, List.getElem?_cons_zero, List.getElem?_cons_succ] at c0 c1
          go_wp2_with fail
          refine (KW.out _ V5.rd).mono ?_
          rintro e w6 ⟨⟨oq, mq, cq, rfl, hRq⟩, hB6⟩
          dsimp only at hRq ⊢
          have V6 := (V5.keep hB6).keep (below_alloc w6 (.cells #[.slice oq mq cq, .int .i64 S.g, .int .i64 S.u, .int .i64 h, .bool M.2.1] 26))
          have R6 := (R5.keep hB6).keep (below_alloc w6 (.cells #[.slice oq mq cq, .int .i64 S.g, .int .i64 S.u, .int .i64 h, .bool M.2.1] 26))
          have B6 := (B5.trans (hB6.mono B5.size)).alloc (Nat.le_trans B5.size hB6.size) (.cells #[.slice oq mq cq, .int .i64 S.g, .int .i64 S.u, .int .i64 h, .bool M.2.1] 26)
          have N6 := SVar.new (S := ⟨M.1, S.g, S.u, h, M.2.1⟩) hRq
          clear hRq hB6 V5 R5 B5 F5 v0 v1 v2 v3 v4 c0 c1
          have V7 := V6.put N6.rd S.g S.u h M.2.1
          have R7 := R6.aside (A := w.heap.size) (by omega) (.slice oq mq cq) S.g S.u h M.2.1
          have B7 := put_below B6 (Nat.le_refl _) (.slice oq mq cq) S.g S.u h M.2.1
          obtain ⟨v0, v1, v2, v3, v4⟩ := V6.cells
          dsimp only at v1 v2 v3 v4
          have vf := V6.row.free
          obtain ⟨y0, y1, y2, y3, y4⟩ := N6.cells
          dsimp only at y1 y2 y3 y4
          obtain ⟨q0, q1, q2, q3, q4⟩ := V7.cells
          dsimp only at q1 q2 q3 q4
          unfold put5 at q0 q1 q2 q3 q4
          obtain ⟨p0, p1, p2, p3, p4⟩ := R7.cells
          have pf := R7.free
          unfold put5 at p0 p1 p2 p3 p4 pf
          by_cases hz : M.2.2 = 0
          · have NX : Hid (Step S h l fs (k + 1) (ss.set j tx) ∧ M = (ss.set j tx, S.d, 0)) := by
              show _ ∧ _
              have := HST.out.next HSZ.out HP.out HTS.out (by rw [← HM.out]; exact hz)
              rw [← HM.out] at this
              exact this
            rw [hz]
            clear hz p0 p1 p2 p3 p4 pf
            have V8 : SVar (put5 (w6.alloc (.cells #[.slice oq mq cq, .int .i64 S.g, .int .i64 S.u, .int .i64 h, .bool M.2.1] 26)) w.heap.size (.slice oq mq cq) S.g S.u h M.2.1) w.heap.size oq mq cq ⟨ss.set j tx, S.g, S.u, h, S.d⟩ := by
              have h1 : (⟨M.1, S.g, S.u, h, M.2.1⟩ : St) = ⟨ss.set j tx, S.g, S.u, h, S.d⟩ := by rw [NX.out.2]
              exact h1 ▸ V7
            clear V7
            go_wp2_with fail
            go_roundw
            case rel => exact ⟨k + 1, ss.set j tx, oq, mq, cq, by omega, by go_num, V8, R7, B7, NX.out.1⟩
            case measure => simp [intOf]; omega
          · have HX : Hid (turnS S l fs = ⟨M.1, S.g, S.u, h, M.2.1⟩ ∧ turnW S l fs = M.2.2) := by
              show _ ∧ _
              have h1 := HST.out.stop HSZ.out HP.out (by rw [← HM.out]; exact hz)
              rw [← HM.out] at h1
              have h2 := HT.out _ h1
              rw [if_neg hz, if_neg hz] at h2
              exact h2
            have hz' : (M.2.2 == 0) = false := by rw [beq_eq_false_iff_ne]; exact hz
            have hz2 : (M.2.2 != 0) = true := by rw [bne, hz']; rfl
            clear hz
            go_wp2_with fail
            refine tell_at HX.out.1.symm HX.out.2.symm ?_
            exact end_store rfl rfl rfl R7 ⟨_, _, _, rfl⟩ V7.rd B7 hw0
        · obtain rfl : k = nl := by omega
          have FT := fits_head (g := h) hh0 hm
          have HP : Hid (pageG S.ss h l k = (hdN h, sealS h 0 ⟨#[]⟩)) := by
            show _ = _
            unfold pageG
            rw [if_neg (by rw [HLL.out]; omega)]
          have HTS := Lib.hid FT.len
          have e2 : hdN h < ss.length := by have h1 := hd_lt h; have h2 := log_bounds HST.out.log; omega
          have KW := Lib.hid (fun wx hx => rwr_any ob m c ⟨ss, S.g, S.u, h, S.d⟩ (hdN h) (sealS h 0 ⟨#[]⟩) (fs.getD k (0, 0)) wx hx HST.out.log e2 FT.len HFA.out)
          rw [HHD.out]
          clear e2 FT h9
          generalize hdN h = j at *
          generalize sealS h 0 ⟨#[]⟩ = tx at *
          obtain ⟨M, hM⟩ : ∃ M, M = wrM ss S.d [(j, tx)] [fs.getD k (0, 0)] := ⟨_, rfl⟩
          dsimp only at KW
          rw [← hM, HFX.out] at KW
          dsimp only at KW
          have HM := Lib.hid hM
          clear hM
          obtain ⟨v0, v1, v2, v3, v4⟩ := V3.cells
          dsimp only at v1 v2 v3 v4
          have c0 := cell_of_row _ _ 0 _ _ _ F3
          have c1 := cell_of_row _ _ 1 _ _ _ F3
          simp only [List.getElem?_toArray, List.getElem?_cons_zero, List.getElem?_cons_succ] at c0 c1
          go_wp2_with fail
          refine (KW.out _ V3.rd).mono ?_
          rintro e w6 ⟨⟨oq, mq, cq, rfl, hRq⟩, hB6⟩
          dsimp only at hRq ⊢
          have V6 := (V3.keep hB6).keep (below_alloc w6 (.cells #[.slice oq mq cq, .int .i64 S.g, .int .i64 S.u, .int .i64 h, .bool M.2.1] 26))
          have R6 := (R3.keep hB6).keep (below_alloc w6 (.cells #[.slice oq mq cq, .int .i64 S.g, .int .i64 S.u, .int .i64 h, .bool M.2.1] 26))
          have B6 := (B3.trans (hB6.mono B3.size)).alloc (Nat.le_trans B3.size hB6.size) (.cells #[.slice oq mq cq, .int .i64 S.g, .int .i64 S.u, .int .i64 h, .bool M.2.1] 26)
          have N6 := SVar.new (S := ⟨M.1, S.g, S.u, h, M.2.1⟩) hRq
          clear hRq hB6 V3 R3 B3 F3 v0 v1 v2 v3 v4 c0 c1
          have V7 := V6.put N6.rd S.g S.u h M.2.1
          have R7 := R6.aside (A := w.heap.size) (by omega) (.slice oq mq cq) S.g S.u h M.2.1
          have B7 := put_below B6 (Nat.le_refl _) (.slice oq mq cq) S.g S.u h M.2.1
          obtain ⟨v0, v1, v2, v3, v4⟩ := V6.cells
          dsimp only at v1 v2 v3 v4
          have vf := V6.row.free
          obtain ⟨y0, y1, y2, y3, y4⟩ := N6.cells
          dsimp only at y1 y2 y3 y4
          obtain ⟨q0, q1, q2, q3, q4⟩ := V7.cells
          dsimp only at q1 q2 q3 q4
          unfold put5 at q0 q1 q2 q3 q4
          obtain ⟨p0, p1, p2, p3, p4⟩ := R7.cells
          have pf := R7.free
          unfold put5 at p0 p1 p2 p3 p4 pf
          by_cases hz : M.2.2 = 0
          · have NX : Hid (Step S h l fs (k + 1) (ss.set j tx) ∧ M = (ss.set j tx, S.d, 0)) := by
              show _ ∧ _
              have := HST.out.next HSZ.out HP.out HTS.out (by rw [← HM.out]; exact hz)
              rw [← HM.out] at this
              exact this
            rw [hz]
            clear hz p0 p1 p2 p3 p4 pf
            have V8 : SVar (put5 (w6.alloc (.cells #[.slice oq mq cq, .int .i64 S.g, .int .i64 S.u, .int .i64 h, .bool M.2.1] 26)) w.heap.size (.slice oq mq cq) S.g S.u h M.2.1) w.heap.size oq mq cq ⟨ss.set j tx, S.g, S.u, h, S.d⟩ := by
              have h1 : (⟨M.1, S.g, S.u, h, M.2.1⟩ : St) = ⟨ss.set j tx, S.g, S.u, h, S.d⟩ := by rw [NX.out.2]
              exact h1 ▸ V7
            clear V7
            go_wp2_with fail
            go_roundw
            case rel => exact ⟨k + 1, ss.set j tx, oq, mq, cq, by omega, by go_num, V8, R7, B7, NX.out.1⟩
            case measure => simp [intOf]
          · have HX : Hid (turnS S l fs = ⟨M.1, S.g, S.u, h, M.2.1⟩ ∧ turnW S l fs = M.2.2) := by
              show _ ∧ _
              have h1 := HST.out.stop HSZ.out HP.out (by rw [← HM.out]; exact hz)
              rw [← HM.out] at h1
              have h2 := HT.out _ h1
              rw [if_neg hz, if_neg hz] at h2
              exact h2
            have hz' : (M.2.2 == 0) = false := by rw [beq_eq_false_iff_ne]; exact hz
            have hz2 : (M.2.2 != 0) = true := by rw [bne, hz']; rfl
            clear hz
            go_wp2_with fail
            refine tell_at HX.out.1.symm HX.out.2.symm ?_
            exact end_store rfl rfl rfl R7 ⟨_, _, _, rfl⟩ V7.rd B7 hw0
    · obtain rfl : k = nl + 1 := by omega
      have HD : Hid (wrM S.ss S.d (pagesG S.ss h l) fs = (ss, S.d, 0)) := Step.done (HLL.out.symm ▸ HST.out)
      have HX : Hid (turnS S l fs = ⟨ss, h, (nl : Int), h, S.d⟩ ∧ turnW S l fs = 0) := by
        have := HT.out _ HD.out
        rw [HLL.out] at this
        exact this
      have V2 := (V.set1 h).set2 (nl : Int)
      have R2 := (R.far (A := w.heap.size) (by omega) 1 (.int .i64 h)).far (A := w.heap.size) (by omega) 2 (.int .i64 (nl : Int))
      have B2 := (B.setCell (p := ⟨w.heap.size, 1, none⟩) (Nat.le_refl _) (.int .i64 h)).setCell (p := ⟨w.heap.size, 2, none⟩) (Nat.le_refl _) (.int .i64 (nl : Int))
      obtain ⟨v0, v1, v2, v3, v4⟩ := V.cells
      dsimp only at v1 v2 v3 v4
      have vf := V.row.free
      obtain ⟨x0, x1, x2, x3, x4⟩ := (V.set1 h).cells
      dsimp only at x1 x2 x3 x4
      have xf := (V.set1 h).row.free
      obtain ⟨q0, q1, q2, q3, q4⟩ := V2.cells
      dsimp only at q1 q2 q3 q4
      obtain ⟨p0, p1, p2, p3, p4⟩ := R2.cells
      have pf := R2.free
      go_wp2_with fail
      refine tell_at HX.out.1.symm HX.out.2.symm ?_
      exact end_store rfl rfl rfl R2 ⟨_, _, _, rfl⟩ V2.rd B2 hw0
end Go.Proofs.Ytmjbhmmcpjhmcaa
