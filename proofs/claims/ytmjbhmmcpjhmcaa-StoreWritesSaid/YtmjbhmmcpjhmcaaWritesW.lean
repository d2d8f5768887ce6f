/-
  The walk of StoreWrites: any store behind a record, and behind all of them anew, with any faults.
-/
import Derived.Test.YtmjbhmmcpjhmcaaRefE4
import Derived.Test.YtmjbhmmcpjhmcaaLogY
import Derived.Test.YtmjbhmmcpjhmcaaLogZ
namespace Go.Proofs.Ytmjbhmmcpjhmcaa.storeWrites
open Go.RowKit
set_option linter.unusedVariables false
attribute [local go_sem ↓] Go.wp_at_zero Go.wp_at_succ

theorem frd_take {w : World} {oa : Option Addr} {n cap : Nat} {fs : List (Int × Int)} (h : FRd w oa n cap fs) (k : Nat) (hk : k ≤ n) : FRd w oa k cap (fs.take k) := by
  refine ⟨by rw [List.length_take, h.len]; omega, Nat.le_trans hk h.room, fun i hi => ?_⟩
  obtain ⟨g, o, h1, h2, h3⟩ := h.cell i (by omega)
  have e : (fs.take k).getD i (0, 0) = fs.getD i (0, 0) := by rw [List.getD_eq_getElem?_getD, List.getD_eq_getElem?_getD, List.getElem?_take, if_pos hi]
  rw [e]
  exact ⟨g, o, h1, h2, h3⟩
theorem Stable.frd (oa : Option Addr) (n cap : Nat) (fs : List (Int × Int)) : Stable (fun w => FRd w oa n cap fs) := fun _ _ h hB => h.keep hB
theorem small130 {l : List ByteArray} {n : Nat} (hl : l.length = n) (h : ∀ p ∈ l, p.size ≤ 130) : ∀ i, i < n → (l.getD i ByteArray.empty).size ≤ maxLen := by
  intro i hi
  have := h _ (getD_mem4 (by omega : i < l.length))
  unfold maxLen
  exact Nat.le_trans this (by omega)
/-- what was handed in -/
structure In (w0 : World) (oa : Option Addr) (n cap : Nat) (S : St) (f : Int × Int) (ol : Option Addr) (nl cl : Nat) (ls : List ByteArray) (of : Option Addr) (nf cf : Nat) (fs : List (Int × Int)) (w : World) : Prop where
  s : SRow w w0.heap.size (.slice oa n cap) S.g S.u S.t S.d
  f : w.heap[w0.heap.size + 1]? = some (.cells #[.int .i64 f.1, .int .i64 f.2] 44 (0, 0))
  sa : Arg w oa n cap S.ss
  la : Arg w ol nl cl ls
  fa : FRd w of nf cf fs
  below : Below w0.heap.size w0 w
theorem In.keep {w0 : World} {oa : Option Addr} {n cap : Nat} {S : St} {f : Int × Int} {ol : Option Addr} {nl cl : Nat} {ls : List ByteArray} {of : Option Addr} {nf cf : Nat} {fs : List (Int × Int)} {w w' : World} (h : In w0 oa n cap S f ol nl cl ls of nf cf fs w) (hB : Below w.heap.size w w') : In w0 oa n cap S f ol nl cl ls of nf cf fs w' :=
  ⟨h.s.keep hB, keepB hB h.f, h.sa.below hB, h.la.below hB, h.fa.keep hB, h.below.trans (hB.mono h.below.size)⟩
/-- what was handed in, cut -/
structure Cut3 (w0 : World) (os : Option Addr) (ns cs : Nat) (S : St) (f : Int × Int) (om : Option Addr) (nm cm : Nat) (l : List ByteArray) (of : Option Addr) (nf cf : Nat) (fs : List (Int × Int)) (w : World) : Prop where
  s : SVar w w0.heap.size os ns cs S
  f : w.heap[w0.heap.size + 1]? = some (.cells #[.int .i64 f.1, .int .i64 f.2] 44 (0, 0))
  l : Rd w om nm cm l
  fa : FRd w of nf cf fs
  below : Below w0.heap.size w0 w
theorem Cut3.keep {w0 : World} {os : Option Addr} {ns cs : Nat} {S : St} {f : Int × Int} {om : Option Addr} {nm cm : Nat} {l : List ByteArray} {of : Option Addr} {nf cf : Nat} {fs : List (Int × Int)} {w w' : World} (h : Cut3 w0 os ns cs S f om nm cm l of nf cf fs w) (hB : Below w.heap.size w w') : Cut3 w0 os ns cs S f om nm cm l of nf cf fs w' :=
  ⟨h.s.keep hB, keepB hB h.f, h.l.below hB (Nat.le_refl _), h.fa.keep hB, h.below.trans (hB.mono h.below.size)⟩
theorem FRd.put {w : World} {of : Option Addr} {nf cf : Nat} {fs : List (Int × Int)} (h : FRd w of nf cf fs) {A : Nat} {C : World} (hB : Below C.heap.size C w) (hA : C.heap.size ≤ A) (hC : FRd C of nf cf fs) (x : Value) (g u t : Int) (d : Bool) : FRd (put5 w A x g u t d) of nf cf fs :=
  hC.keep (put_below hB hA x g u t d)
theorem app_why {S : St} {p : ByteArray} {f : Int × Int} (h : appE S p f ≠ 0) : appS S p f = St.zero ∧ appW S p f = appE S p f := by
  unfold appS appW
  rw [if_neg h, if_neg h]
  exact ⟨rfl, rfl⟩
theorem turn_why {S : St} {l : List ByteArray} {fs : List (Int × Int)} (h : turnE S l fs ≠ 0) : turnS S l fs = St.zero ∧ turnW S l fs = turnE S l fs := by
  unfold turnS turnW
  rw [if_neg h, if_neg h]
  exact ⟨rfl, rfl⟩
theorem app_zero {S : St} {p : ByteArray} {f : Int × Int} (h : appE S p f = 0) : stoB S.ss S.g S.u S.t = true ∧ faultB f = true ∧ p.size ≤ 96 ∧ S.u ≠ roomZ S.ss := by
  unfold appE at h
  by_cases h1 : (stoB S.ss S.g S.u S.t && faultB f) = true
  · rw [if_pos h1] at h
    rw [Bool.and_eq_true] at h1
    by_cases h2 : longB p = true
    · rw [if_pos h2] at h
      exact absurd h (by decide)
    · rw [if_neg h2] at h
      by_cases h3 : S.d = true
      · rw [if_pos h3] at h
        exact absurd h (by decide)
      · rw [if_neg h3] at h
        by_cases h4 : S.u = roomZ S.ss
        · rw [if_pos h4] at h
          exact absurd h (by decide)
        · refine ⟨h1.1, h1.2, ?_, h4⟩
          unfold longB at h2
          simpa using h2
  · rw [if_neg h1] at h
    exact absurd h (by decide)
theorem turn_zero {S : St} {l : List ByteArray} {fs : List (Int × Int)} (h : turnE S l fs = 0) : stoB S.ss S.g S.u S.t = true ∧ (∀ f ∈ fs, faultB f = true) ∧ (∀ p ∈ l, p.size ≤ 96) ∧ (l.length : Int) ≤ roomZ S.ss ∧ nextZ S.g S.t ≤ 250 := by
  unfold turnE at h
  by_cases h1 : (stoB S.ss S.g S.u S.t && !(fs.any fun f => !faultB f)) = true
  · rw [if_pos h1] at h
    rw [Bool.and_eq_true, Bool.not_eq_true'] at h1
    by_cases h2 : l.any longB = true
    · rw [if_pos h2] at h
      exact absurd h (by decide)
    · rw [if_neg h2] at h
      by_cases h3 : S.d = true
      · rw [if_pos h3] at h
        exact absurd h (by decide)
      · rw [if_neg h3] at h
        by_cases h4 : roomZ S.ss < (l.length : Int) ∨ 250 < nextZ S.g S.t
        · rw [if_pos h4] at h
          exact absurd h (by decide)
        · exact ⟨h1.1, faults_all h1.2, longs_all (by simpa using h2), by omega, by omega⟩
  · rw [if_neg h1] at h
    exact absurd h (by decide)
set_option maxRecDepth 100000 in
set_option maxHeartbeats 3200000 in
theorem walk (oa : Option Addr) (n cap : Nat) (S0 : St) (p0 : ByteArray) (f : Int × Int) (ol : Option Addr) (nl cl : Nat) (ls : List ByteArray) (of : Option Addr) (nf cf : Nat) (fs0 : List (Int × Int)) (w : World) (hA : Arg w oa n cap S0.ss) (hp : p0.size ≤ maxLen) (hL : Arg w ol nl cl ls) (hF1 : FRd w of nf cf fs0 ∧ cf ≤ maxLen) :
    Calls Try.prog 4 #[.agg #[.slice oa n cap, .int .i64 S0.g, .int .i64 S0.u, .int .i64 S0.t, .bool S0.d], .string p0, .agg #[.int .i64 f.1, .int .i64 f.2], .slice ol nl cl, .slice of nf cf] w fun e w' => e = .returned (.bool true) ∧ Below w.heap.size w w' := by
  obtain ⟨hF, hcf⟩ := hF1
  unfold maxLen at hp hcf
  obtain ⟨W0, hW0⟩ : ∃ W0, W0 = (w.alloc (.cells #[.slice oa n cap, .int .i64 S0.g, .int .i64 S0.u, .int .i64 S0.t, .bool S0.d] 26)).alloc (.cells #[.int .i64 f.1, .int .i64 f.2] 44) := ⟨_, rfl⟩
  have hB0 : Below w.heap.size w W0 := by rw [hW0]; exact (below_alloc w _).alloc (by simp) _
  have T0 : In w oa n cap S0 f ol nl cl ls of nf cf fs0 W0 := by
    refine ⟨?_, ?_, hA.below hB0, hL.below hB0, hF.keep hB0, hB0⟩
    · rw [hW0]
      exact SRow.keep (heap_alloc_new w _) (below_alloc _ _)
    · rw [hW0]
      have := heap_alloc_new (w.alloc (.cells #[.slice oa n cap, .int .i64 S0.g, .int .i64 S0.u, .int .i64 S0.t, .bool S0.d] 26)) (.cells #[.int .i64 f.1, .int .i64 f.2] 44)
      simpa using this
  have HW := Lib.hid hW0
  have hroom := hF.room
  have HF0 := Lib.hid hF
  clear hW0 hA hL hB0 hF
  obtain ⟨mf, hmf⟩ : ∃ mf, mf = min nf 70 := ⟨_, rfl⟩
  have hmf1 : mf ≤ nf := by omega
  have hmf2 : mf ≤ 70 := by omega
  have HMF := Lib.hid hmf
  clear hmf
  go_enter Try.func4, Try.ntmps4
  go_upto_region 1 with fail
  rw [← HW.out]
  clear HW
  refine wp_region_any (by kernel_rfl) ?_
  change wpAny _ _ _ _ _ _ _ (World.drew _)
  have hT := T0.keep (Below.refl _ W0).drew
  clear T0
  generalize W0.drew = wd at *
  refine wpAny_take (i := 2) (v := .string p0) rfl (by kernel_rfl) (by kernel_rfl) (by kernel_rfl) (fun _ _ _ h => h) (Or.inl ⟨by rfl, fun v => by go_simp⟩) ?_
  refine wpAny_take (i := 3) (v := .string p0) rfl (by kernel_rfl) (by kernel_rfl) (by kernel_rfl) (fun _ _ _ h => h) (Or.inl ⟨by rfl, fun v => by go_simp⟩) ?_
  refine wpAny_take (i := 4) (v := .int .i64 (p0.size : Int)) rfl (by kernel_rfl) (by kernel_rfl) (by kernel_rfl) (fun _ _ _ h => h) (Or.inl ⟨by rfl, fun v => by go_simp⟩) ?_
  refine wpAny_take (i := 5) (v := .int .i64 ((min p0.size 130 : Nat) : Int)) rfl (by kernel_rfl) (by kernel_rfl) (by kernel_rfl) (fun _ _ _ h => h) (Or.inl ⟨by rfl, fun v => ?_⟩) ?_
  · by_cases h : p0.size ≤ 130
    · rw [Nat.min_eq_left h]
      go_simp
      intro h
      omega
    · rw [Nat.min_eq_right (by omega)]
      go_simp
      intro h
      omega
  refine wpAny_take (i := 6) (v := .string (cutS 130 p0)) rfl (by kernel_rfl) (by kernel_rfl) (by kernel_rfl) (fun _ _ _ h => h) (Or.inl ⟨by rfl, fun v => ?_⟩) ?_
  · by_cases h : 130 < p0.size
    · rw [Nat.min_eq_right (by omega), cut_pos h]
      go_simp
      intro h2
      exact absurd h2 (by omega)
    · rw [Nat.min_eq_left (by omega), cut_neg h]
      go_simp
  go_simp
  refine wpAny_take (i := 7) (v := .slice ol nl cl) rfl (by kernel_rfl) (by kernel_rfl) (by kernel_rfl) (fun _ _ _ h => h) (Or.inl ⟨by rfl, fun v => by go_simp⟩) ?_
  refine wpAny_take (i := 9) (v := .slice of nf cf) rfl (by kernel_rfl) (by kernel_rfl) (by kernel_rfl) (fun _ _ _ h => h) (Or.inl ⟨by rfl, fun v => by go_simp⟩) ?_
  refine wpAny_take (i := 10) (v := .slice of nf cf) rfl (by kernel_rfl) (by kernel_rfl) (by kernel_rfl) (fun _ _ _ h => h) (Or.inl ⟨by rfl, fun v => by go_simp⟩) ?_
  refine wpAny_take (i := 11) (v := .int .i64 (nf : Int)) rfl (by kernel_rfl) (by kernel_rfl) (by kernel_rfl) (fun _ _ _ h => h) (Or.inl ⟨by rfl, fun v => by go_simp⟩) ?_
  refine wpAny_take (i := 12) (v := .int .i64 (mf : Int)) rfl (by kernel_rfl) (by kernel_rfl) (by kernel_rfl) (fun _ _ _ h => h) (Or.inl ⟨by rfl, fun v => ?_⟩) ?_
  · have hm := HMF.out
    by_cases h : nf ≤ 70
    · obtain rfl : mf = nf := by omega
      clear hm
      go_simp
      intro h
      omega
    · obtain rfl : mf = 70 := by omega
      clear hm
      go_simp
      intro h
      omega
  refine wpAny_take (i := 13) (v := .slice of mf cf) rfl (by kernel_rfl) (by kernel_rfl) (by kernel_rfl) (fun _ _ _ h => h) (Or.inl ⟨by rfl, fun v => ?_⟩) ?_
  · go_simp
    intro h
    exact absurd h (by omega)
  go_simp
  refine wpAny_ready (rs := [0]) (by kernel_rfl) (by simp) ?_
  refine AllReady.cons (o := ⟨some 21, .load 26 (.tmp 5), _, _, _, none⟩) rfl (fun K hK => ?_) AllReady.nil
  rw [if_pos (show Region.wanted _ _ = true from rfl)]
  refine wp_load5 rfl hT.s ?_
  refine hK _ _ ?_
  clear hK K
  refine wpAny_ready (rs := [1]) (by kernel_rfl) (by simp) ?_
  refine AllReady.cons rfl (fun K hK => ?_) AllReady.nil
  go_simp
  refine (scut_any oa n cap S0.ss S0.g S0.u S0.t S0.d wd hT.sa).mono ?_
  rintro e w2 ⟨⟨os, ns, cs, rfl, hR2⟩, hB2⟩
  dsimp only at hR2 ⊢
  have T2 := hT.keep hB2
  refine hK _ _ ?_
  clear hK K hT hB2
  refine wpAny_ready (rs := [8]) (by kernel_rfl) (by simp) ?_
  refine AllReady.cons rfl (fun K hK => ?_) AllReady.nil
  go_simp
  refine (few_any ol nl cl ls 70 w2 T2.la (by omega)).mono ?_
  rintro e w3 ⟨⟨om, nm, cm, rfl, hR3⟩, hB3⟩
  have T3 := T2.keep hB3
  have hS3 := hR2.below hB3 (Nat.le_refl _)
  refine hK _ _ ?_
  clear hK K T2 hB3 hR2
  refine wpAny_ready (rs := [14]) (by kernel_rfl) (by simp) ?_
  refine AllReady.cons (o := ⟨none, .store 26 (.tmp 5) (.tmp 22), 0, _, _, none⟩) rfl (fun K hK => ?_) AllReady.nil
  rw [if_pos (show Region.wanted _ _ = true from rfl)]
  refine wp_store5 rfl rfl T3.s ?_
  have J := T3
  have C3 : Cut3 w os ns cs ⟨fewM 132 S0.ss, S0.g, S0.u, S0.t, S0.d⟩ f om nm cm (fewM 70 ls) of mf cf (fs0.take mf) (put5 w3 w.heap.size (.slice os ns cs) S0.g S0.u S0.t S0.d) :=
    ⟨⟨J.s.put _ _ _ _ _, hS3.put J.s ⟨_, _, _, rfl⟩ _ _ _ _ _⟩, (put_other _ _ _ _ _ _ _ _ (by omega)).trans J.f, hR3.put J.s ⟨_, _, _, rfl⟩ _ _ _ _ _, frd_take (HF0.out.keep (put_below J.below (Nat.le_refl _) _ _ _ _ _)) mf hmf1, put_below J.below (Nat.le_refl _) _ _ _ _ _⟩
  generalize put5 w3 w.heap.size (.slice os ns cs) S0.g S0.u S0.t S0.d = w4 at *
  refine hK _ _ ?_
  clear hK K T3 J hS3 hR3
  refine wpAny_ready (rs := [15]) (by kernel_rfl) (by simp) ?_
  refine AllReady.cons rfl (fun K hK => ?_) AllReady.nil
  go_simp
  refine hK _ _ ?_
  clear hK K
  refine wpAny_ready (rs := [16]) (by kernel_rfl) (by simp) ?_
  refine AllReady.cons rfl (fun K hK => ?_) AllReady.nil
  go_simp
  refine hK _ _ ?_
  clear hK K
  refine wpAny_ready (rs := [17]) (by kernel_rfl) (by simp) ?_
  refine AllReady.cons rfl (fun K hK => ?_) AllReady.nil
  go_simp
  refine hK _ _ ?_
  clear hK K
  refine wpAny_done (by kernel_rfl) ?_ _
  generalize hS : (⟨fewM 132 S0.ss, S0.g, S0.u, S0.t, S0.d⟩ : St) = S at *
  have hsl : S.ss.length ≤ 132 := by rw [← hS]; show (fewM 132 S0.ss).length ≤ 132; rw [fewM_length]; omega
  have hns : ns ≤ 1000 := by have := C3.s.rd.len; omega
  have hp9 := cut_size 130 p0
  have hlm := fewM_small 70 ls
  have hll : nm ≤ 70 := by have h1 := C3.l.len; have h2 := fewM_length 70 ls; omega
  generalize cutS 130 p0 = p at *
  generalize fewM 70 ls = l at *
  generalize fs0.take mf = fs at *
  have HSM := Lib.hid (small130 C3.l.len hlm)
  have HLN := Lib.hid C3.l.len
  have hpm : p.size ≤ maxLen := by unfold maxLen; omega
  clear hS hsl hlm HF0 HMF hp hcf hroom hmf1
  have HAP := Lib.hid (append_any os ns cs S p f w4 C3.s.rd hns hpm)
  have HTU : Hid (∀ wx, Cut3 w os ns cs S f om nm cm l of mf cf fs wx → Calls Try.prog 22 #[.agg #[.slice os ns cs, .int .i64 S.g, .int .i64 S.u, .int .i64 S.t, .bool S.d], .slice om nm cm, .slice of mf cf] wx fun e w' => TellS e w' (turnS S l fs) (turnW S l fs) ∧ Below wx.heap.size wx w') :=
    fun wx h => turn_any os ns cs S om nm cm l of mf cf fs wx h.s.rd hns (h.l.ard HSM.out) (by omega) h.fa (by omega)
  have HA1 := Lib.hid (fun h => app_why (S := S) (p := p) (f := f) h)
  have HA2 : Hid (appE S p f = 0 → ∀ wx, Rd wx os ns cs S.ss → Calls Try.prog 25 #[.agg #[.slice os ns cs, .int .i64 S.g, .int .i64 S.u, .int .i64 S.t, .bool S.d], .string p, .agg #[.int .i64 f.1, .int .i64 f.2]] wx fun e w' => TellS e w' (appS S p f) (appW S p f) ∧ Below wx.heap.size wx w') := by
    intro h wx hx
    obtain ⟨h1, h2, h3, h4⟩ := app_zero h
    exact rappend_any os ns cs S p f wx hx h h3 h2 h1 h4
  have HB1 := Lib.hid (fun h => turn_why (S := S) (l := l) (fs := fs) h)
  have HB2 : Hid (turnE S l fs = 0 → ∀ wx, Cut3 w os ns cs S f om nm cm l of mf cf fs wx → Calls Try.prog 29 #[.agg #[.slice os ns cs, .int .i64 S.g, .int .i64 S.u, .int .i64 S.t, .bool S.d], .slice om nm cm, .slice of mf cf] wx fun e w' => TellS e w' (turnS S l fs) (turnW S l fs) ∧ Below wx.heap.size wx w') := by
    intro h wx hx
    obtain ⟨h1, h2, h3, h4, h5⟩ := turn_zero h
    have h6 := (room_eq ((sto_iff _ _ _ _).1 h1).1).1
    exact rturn_any os ns cs S om nm cm l of mf cf fs wx hx.s.rd (hx.l.ard HSM.out) hx.fa (by omega) h h1 h2 h3 (by omega) h5
  have HLA : Hid ((appS S p f).ss.length ≤ 1000) := by show _ ≤ _; have h1 := append_len S p f; have h2 := C3.s.rd.len; omega
  have HLB : Hid ((turnS S l fs).ss.length ≤ 1000) := by show _ ≤ _; have h1 := turn_len S l fs; have h2 := C3.s.rd.len; omega
  have HE1 := Lib.hid (show ∀ x, appE S p f = x → appE S p f = x from fun _ h => h)
  obtain ⟨xa, hxa⟩ : ∃ xa, xa = appE S p f := ⟨_, rfl⟩
  obtain ⟨ya, hya⟩ : ∃ ya, ya = turnE S l fs := ⟨_, rfl⟩
  rw [← hxa] at HA1 HA2
  rw [← hya] at HB1 HB2
  have HXA := Lib.hid hxa
  have HYA := Lib.hid hya
  clear hxa hya HE1
  generalize appS S p f = Sa at *
  generalize appW S p f = ea at *
  generalize turnS S l fs = Sb at *
  generalize turnW S l fs = eb at *
  obtain ⟨v0, v1, v2, v3, v4⟩ := C3.s.cells
  have c0 := cell_of_row _ _ 0 _ _ _ C3.f
  have c1 := cell_of_row _ _ 1 _ _ _ C3.f
  simp only [List.getElem?_toArray, List.getElem?_cons_zero, List.getElem?_cons_succ] at c0 c1
  go_wp2_with fail
  refine HAP.out.mono ?_
  rintro e w5 ⟨⟨oA, nA, cA, rfl, hRA⟩, hB5⟩
  have C5 := (C3.keep hB5).keep (below_alloc w5 (.cells #[.slice oA nA cA, .int .i64 Sa.g, .int .i64 Sa.u, .int .i64 Sa.t, .bool Sa.d] 26))
  have A5 := SVar.new (S := Sa) hRA
  clear C3 hRA hB5 v0 v1 v2 v3 v4 c0 c1 HAP
  obtain ⟨v0, v1, v2, v3, v4⟩ := C5.s.cells
  go_wp2_with fail
  refine (HTU.out _ C5).mono ?_
  rintro e w6 ⟨⟨oB, nB, cB, rfl, hRB⟩, hB6⟩
  have C6 := (C5.keep hB6).keep (below_alloc w6 (.cells #[.slice oB nB cB, .int .i64 Sb.g, .int .i64 Sb.u, .int .i64 Sb.t, .bool Sb.d] 26))
  have A6 := (A5.keep hB6).keep (below_alloc w6 (.cells #[.slice oB nB cB, .int .i64 Sb.g, .int .i64 Sb.u, .int .i64 Sb.t, .bool Sb.d] 26))
  have B6 := SVar.new (S := Sb) hRB
  clear C5 A5 hRB hB6 v0 v1 v2 v3 v4 HTU
  obtain ⟨W7, hW7⟩ : ∃ W7, W7 = w6.alloc (.cells #[.slice oB nB cB, .int .i64 Sb.g, .int .i64 Sb.u, .int .i64 Sb.t, .bool Sb.d] 26) := ⟨_, rfl⟩
  rw [← hW7] at C6 A6 B6
  have hs7 : W7.heap.size = w6.heap.size + 1 := by rw [hW7]; simp
  obtain ⟨I, hID⟩ : ∃ I : World → Prop, I = fun wx => Cut3 w os ns cs S f om nm cm l of mf cf fs wx ∧ (SVar wx w5.heap.size oA nA cA Sa ∧ SVar wx w6.heap.size oB nB cB Sb) ∧ SVar wx (w6.heap.size + 1) none 0 0 St.zero := ⟨_, rfl⟩
  have st : Hid (Stable I) := by
    rw [hID]
    exact (show Stable (Cut3 w os ns cs S f om nm cm l of mf cf fs) from fun _ _ h hB => h.keep hB).and (((Stable.svar _ _ _ _ _).and (Stable.svar _ _ _ _ _)).and (Stable.svar _ _ _ _ _))
  have gI : Hid (∀ wx, I wx → Cut3 w os ns cs S f om nm cm l of mf cf fs wx ∧ (SVar wx w5.heap.size oA nA cA Sa ∧ SVar wx w6.heap.size oB nB cB Sb) ∧ SVar wx (w6.heap.size + 1) none 0 0 St.zero) := by intro wx h; rw [hID] at h; exact h
  have hI8 : I (W7.alloc (.cells #[.slice none 0 0, .int .i64 0, .int .i64 0, .int .i64 0, .bool false] 26)) := by
    rw [hID]
    have hN := SVar.new (w := W7) (S := St.zero) (Rd.nil _)
    rw [hs7] at hN
    have hb := below_alloc W7 (.cells #[.slice none 0 0, .int .i64 0, .int .i64 0, .int .i64 0, .bool false] 26)
    exact ⟨C6.keep hb, ⟨A6.keep hb, B6.keep hb⟩, hN⟩
  have HW7 := Lib.hid hW7
  clear hID C6 A6 B6 hs7 hW7
  go_wp2_with fail
  rw [← HW7.out]
  clear HW7
  generalize W7.alloc (.cells #[.slice none 0 0, .int .i64 0, .int .i64 0, .int .i64 0, .bool false] 26) = w8 at *
  refine (alive_any _).mono ?_
  rintro e w9 ⟨rfl, hB⟩
  have hI9 := st.out _ _ hI8 hB
  clear hI8 hB
  obtain ⟨sb, hsb⟩ : ∃ sb, stoB S.ss S.g S.u S.t = sb := ⟨_, rfl⟩
  have HSB := Lib.hid hsb
  have HRT : Hid (∀ wx, Rd wx os ns cs S.ss → Calls Try.prog 14 #[.agg #[.slice os ns cs, .int .i64 S.g, .int .i64 S.u, .int .i64 S.t, .bool S.d]] wx fun e w' => e = .returned (.bool sb) ∧ Below wx.heap.size wx w') := fun wx h => hsb ▸ rright4_any os ns cs S.ss S.g S.u S.t S.d wx h hns
  have HAR : Hid (∀ wx, Rd wx os ns cs S.ss → Calls Try.prog 24 #[.agg #[.slice os ns cs]] wx fun e w' => e = .returned (.int .i64 (roomZ S.ss)) ∧ Below wx.heap.size wx w') := fun wx h => rarea_any os ns cs S.ss wx h.len hns
  have HFT := Lib.hid (fun wx => rfault_any f wx)
  have HFS : Hid (∀ wx, FRd wx of mf cf fs → Calls Try.prog 26 #[.slice of mf cf] wx fun e w' => e = .returned (.bool (!(fs.any fun f => !faultB f))) ∧ Below wx.heap.size wx w') := fun wx h => rfaults_any of mf cf fs wx h (by omega)
  have HPS : Hid (∀ wx, Rd wx om nm cm l → Calls Try.prog 27 #[.slice om nm cm] wx fun e w' => e = .returned (.bool (!l.any longB)) ∧ wx = w') := fun wx h => rpays_any om nm cm l wx (h.ard HSM.out) (by omega)
  have HNX := Lib.hid (fun wx => rnext_any (.slice os ns cs) S.g S.u S.t S.d wx rfl)
  clear hsb
  obtain ⟨fb, hfb⟩ : ∃ fb, faultB f = fb := ⟨_, rfl⟩
  obtain ⟨fm, hfm⟩ : ∃ fm, (fs.any fun f => !faultB f) = fm := ⟨_, rfl⟩
  obtain ⟨lm, hlg⟩ : ∃ lm, l.any longB = lm := ⟨_, rfl⟩
  rw [hfb] at HFT
  rw [hfm] at HFS
  rw [hlg] at HPS
  have HFB := Lib.hid hfb
  have HFM := Lib.hid hfm
  have HLG := Lib.hid hlg
  clear hfb hfm hlg
  go_upto_block 0 with fail
  go_cut [16] (fun s16 wx => s16 = .int .i64 xa ∧ I wx)
  case first =>
    cases sb
    · have E : Hid (xa = 1) := by show _ = _; rw [HXA.out]; exact appE_1 HSB.out
      have J := (gI.out _ hI9).1
      obtain ⟨v0, v1, v2, v3, v4⟩ := J.s.cells
      have c0 := cell_of_row _ _ 0 _ _ _ J.f
      have c1 := cell_of_row _ _ 1 _ _ _ J.f
      simp only [List.getElem?_toArray, List.getElem?_cons_zero, List.getElem?_cons_succ] at c0 c1
      go_wp2_with fail
      refine (HRT.out _ J.s.rd).mono ?_
      rintro e w10 ⟨rfl, hB⟩
      have hI10 := st.out _ _ hI9 hB
      clear J v0 v1 v2 v3 v4 c0 c1 hB hI9
      have J := (gI.out _ hI10).1
      obtain ⟨v0, v1, v2, v3, v4⟩ := J.s.cells
      have c0 := cell_of_row _ _ 0 _ _ _ J.f
      have c1 := cell_of_row _ _ 1 _ _ _ J.f
      simp only [List.getElem?_toArray, List.getElem?_cons_zero, List.getElem?_cons_succ] at c0 c1
      go_wp2_with fail
      go_meet
      case rel => exact ⟨by rw [E.out], hI10⟩
    cases fb
    · have E : Hid (xa = 1) := by show _ = _; rw [HXA.out]; exact appE_2 HSB.out HFB.out
      have J := (gI.out _ hI9).1
      obtain ⟨v0, v1, v2, v3, v4⟩ := J.s.cells
      have c0 := cell_of_row _ _ 0 _ _ _ J.f
      have c1 := cell_of_row _ _ 1 _ _ _ J.f
      simp only [List.getElem?_toArray, List.getElem?_cons_zero, List.getElem?_cons_succ] at c0 c1
      go_wp2_with fail
      refine (HRT.out _ J.s.rd).mono ?_
      rintro e w10 ⟨rfl, hB⟩
      have hI10 := st.out _ _ hI9 hB
      clear J v0 v1 v2 v3 v4 c0 c1 hB hI9
      have J := (gI.out _ hI10).1
      obtain ⟨v0, v1, v2, v3, v4⟩ := J.s.cells
      have c0 := cell_of_row _ _ 0 _ _ _ J.f
      have c1 := cell_of_row _ _ 1 _ _ _ J.f
      simp only [List.getElem?_toArray, List.getElem?_cons_zero, List.getElem?_cons_succ] at c0 c1
      go_wp2_with fail
      refine (HFT.out _).mono ?_
      rintro e w11 ⟨rfl, hB⟩
      have hI11 := st.out _ _ hI10 hB
      clear J v0 v1 v2 v3 v4 c0 c1 hB hI10
      have J := (gI.out _ hI11).1
      obtain ⟨v0, v1, v2, v3, v4⟩ := J.s.cells
      have c0 := cell_of_row _ _ 0 _ _ _ J.f
      have c1 := cell_of_row _ _ 1 _ _ _ J.f
      simp only [List.getElem?_toArray, List.getElem?_cons_zero, List.getElem?_cons_succ] at c0 c1
      go_wp2_with fail
      go_meet
      case rel => exact ⟨by rw [E.out], hI11⟩
    by_cases hlp : 96 < p.size
    · have E : Hid (xa = 2) := by show _ = _; rw [HXA.out]; exact appE_3 HSB.out HFB.out (long_yes hlp)
      have hlp2 : (96 : Int) < (p.size : Int) := by omega
      clear hlp
      have J := (gI.out _ hI9).1
      obtain ⟨v0, v1, v2, v3, v4⟩ := J.s.cells
      have c0 := cell_of_row _ _ 0 _ _ _ J.f
      have c1 := cell_of_row _ _ 1 _ _ _ J.f
      simp only [List.getElem?_toArray, List.getElem?_cons_zero, List.getElem?_cons_succ] at c0 c1
      go_wp2_with fail
      refine (HRT.out _ J.s.rd).mono ?_
      rintro e w10 ⟨rfl, hB⟩
      have hI10 := st.out _ _ hI9 hB
      clear J v0 v1 v2 v3 v4 c0 c1 hB hI9
      have J := (gI.out _ hI10).1
      obtain ⟨v0, v1, v2, v3, v4⟩ := J.s.cells
      have c0 := cell_of_row _ _ 0 _ _ _ J.f
      have c1 := cell_of_row _ _ 1 _ _ _ J.f
      simp only [List.getElem?_toArray, List.getElem?_cons_zero, List.getElem?_cons_succ] at c0 c1
      go_wp2_with fail
      refine (HFT.out _).mono ?_
      rintro e w11 ⟨rfl, hB⟩
      have hI11 := st.out _ _ hI10 hB
      clear J v0 v1 v2 v3 v4 c0 c1 hB hI10
      have J := (gI.out _ hI11).1
      obtain ⟨v0, v1, v2, v3, v4⟩ := J.s.cells
      have c0 := cell_of_row _ _ 0 _ _ _ J.f
      have c1 := cell_of_row _ _ 1 _ _ _ J.f
      simp only [List.getElem?_toArray, List.getElem?_cons_zero, List.getElem?_cons_succ] at c0 c1
      go_wp2_with fail
      go_meet
      case rel => exact ⟨by rw [E.out], hI11⟩
    have HLP := Lib.hid (long_no hlp)
    have hlp2 : ¬ (96 : Int) < (p.size : Int) := by omega
    clear hlp
    cases hd : S.d
    rotate_left
    · have E : Hid (xa = 9) := by show _ = _; rw [HXA.out]; exact appE_4 HSB.out HFB.out HLP.out hd
      have HD := Lib.hid hd
      clear hd
      have J := (gI.out _ hI9).1
      obtain ⟨v0, v1, v2, v3, v4⟩ := J.s.cells
      have c0 := cell_of_row _ _ 0 _ _ _ J.f
      have c1 := cell_of_row _ _ 1 _ _ _ J.f
      simp only [List.getElem?_toArray, List.getElem?_cons_zero, List.getElem?_cons_succ] at c0 c1
      go_wp2_with fail
      refine (HRT.out _ J.s.rd).mono ?_
      rintro e w10 ⟨rfl, hB⟩
      have hI10 := st.out _ _ hI9 hB
      clear J v0 v1 v2 v3 v4 c0 c1 hB hI9
      have J := (gI.out _ hI10).1
      obtain ⟨v0, v1, v2, v3, v4⟩ := J.s.cells
      have c0 := cell_of_row _ _ 0 _ _ _ J.f
      have c1 := cell_of_row _ _ 1 _ _ _ J.f
      simp only [List.getElem?_toArray, List.getElem?_cons_zero, List.getElem?_cons_succ] at c0 c1
      go_wp2_with fail
      refine (HFT.out _).mono ?_
      rintro e w11 ⟨rfl, hB⟩
      have hI11 := st.out _ _ hI10 hB
      clear J v0 v1 v2 v3 v4 c0 c1 hB hI10
      have J := (gI.out _ hI11).1
      obtain ⟨v0, v1, v2, v3, v4⟩ := J.s.cells
      have c0 := cell_of_row _ _ 0 _ _ _ J.f
      have c1 := cell_of_row _ _ 1 _ _ _ J.f
      simp only [List.getElem?_toArray, List.getElem?_cons_zero, List.getElem?_cons_succ] at c0 c1
      rw [HD.out] at v4
      go_wp2_with fail
      go_meet
      case rel => exact ⟨by rw [E.out], hI11⟩
    have HD := Lib.hid hd
    clear hd
    by_cases hu : S.u = roomZ S.ss
    · have E : Hid (xa = 5) := by show _ = _; rw [HXA.out]; exact appE_5 HSB.out HFB.out HLP.out HD.out hu
      have bu : (S.u == roomZ S.ss) = true := by rw [beq_iff_eq]; exact hu
      clear hu
      have J := (gI.out _ hI9).1
      obtain ⟨v0, v1, v2, v3, v4⟩ := J.s.cells
      have c0 := cell_of_row _ _ 0 _ _ _ J.f
      have c1 := cell_of_row _ _ 1 _ _ _ J.f
      simp only [List.getElem?_toArray, List.getElem?_cons_zero, List.getElem?_cons_succ] at c0 c1
      go_wp2_with fail
      refine (HRT.out _ J.s.rd).mono ?_
      rintro e w10 ⟨rfl, hB⟩
      have hI10 := st.out _ _ hI9 hB
      clear J v0 v1 v2 v3 v4 c0 c1 hB hI9
      have J := (gI.out _ hI10).1
      obtain ⟨v0, v1, v2, v3, v4⟩ := J.s.cells
      have c0 := cell_of_row _ _ 0 _ _ _ J.f
      have c1 := cell_of_row _ _ 1 _ _ _ J.f
      simp only [List.getElem?_toArray, List.getElem?_cons_zero, List.getElem?_cons_succ] at c0 c1
      go_wp2_with fail
      refine (HFT.out _).mono ?_
      rintro e w11 ⟨rfl, hB⟩
      have hI11 := st.out _ _ hI10 hB
      clear J v0 v1 v2 v3 v4 c0 c1 hB hI10
      have hId := st.out.drew hI11
      haveI : Nonempty (Cls I) := ⟨⟨_, hId⟩⟩
      have gC0 : ∀ x : Cls I, x.w.cell? ⟨w.heap.size, 0, none⟩ = some (.slice os ns cs) := fun x => (gI.out _ x.is).1.s.cells.1
      have gC2 : ∀ x : Cls I, x.w.cell? ⟨w.heap.size, 2, none⟩ = some (.int .i64 S.u) := fun x => (gI.out _ x.is).1.s.cells.2.2.1
      have K1 : Hid (∀ x : Cls I, Calls Try.prog 24 #[.agg #[.slice os ns cs]] x.w fun e w'' => e = .returned (.int .i64 (roomZ S.ss)) ∧ ∃ y : Cls I, w'' = y.w) := fun x => class_of st.out (HAR.out _ (gI.out _ x.is).1.s.rd)
      have J := (gI.out _ hI11).1
      obtain ⟨v0, v1, v2, v3, v4⟩ := J.s.cells
      have c0 := cell_of_row _ _ 0 _ _ _ J.f
      have c1 := cell_of_row _ _ 1 _ _ _ J.f
      simp only [List.getElem?_toArray, List.getElem?_cons_zero, List.getElem?_cons_succ] at c0 c1
      rw [HD.out] at v4
      go_upto_region 14 with fail
      clear J v0 v1 v2 v3 v4 c0 c1 hI11
      refine wp_region_class I (by kernel_rfl) (by kernel_rfl) hId ?_
      repeat (go_big_quiet_step (exact K1.out _))
      refine wpQuiet_nil ?_
      rintro _ ⟨x, rfl⟩
      have hx := x.is
      clear gC0 gC2 K1 hId
      go_wp2_with fail
      go_meet
      case rel => exact ⟨by rw [E.out], hx⟩
    · have E : Hid (xa = 0) := by show _ = _; rw [HXA.out]; exact appE_6 HSB.out HFB.out HLP.out HD.out hu
      have bu : (S.u == roomZ S.ss) = false := by rw [beq_eq_false_iff_ne]; exact hu
      clear hu
      have J := (gI.out _ hI9).1
      obtain ⟨v0, v1, v2, v3, v4⟩ := J.s.cells
      have c0 := cell_of_row _ _ 0 _ _ _ J.f
      have c1 := cell_of_row _ _ 1 _ _ _ J.f
      simp only [List.getElem?_toArray, List.getElem?_cons_zero, List.getElem?_cons_succ] at c0 c1
      go_wp2_with fail
      refine (HRT.out _ J.s.rd).mono ?_
      rintro e w10 ⟨rfl, hB⟩
      have hI10 := st.out _ _ hI9 hB
      clear J v0 v1 v2 v3 v4 c0 c1 hB hI9
      have J := (gI.out _ hI10).1
      obtain ⟨v0, v1, v2, v3, v4⟩ := J.s.cells
      have c0 := cell_of_row _ _ 0 _ _ _ J.f
      have c1 := cell_of_row _ _ 1 _ _ _ J.f
      simp only [List.getElem?_toArray, List.getElem?_cons_zero, List.getElem?_cons_succ] at c0 c1
      go_wp2_with fail
      refine (HFT.out _).mono ?_
      rintro e w11 ⟨rfl, hB⟩
      have hI11 := st.out _ _ hI10 hB
      clear J v0 v1 v2 v3 v4 c0 c1 hB hI10
      have hId := st.out.drew hI11
      haveI : Nonempty (Cls I) := ⟨⟨_, hId⟩⟩
      have gC0 : ∀ x : Cls I, x.w.cell? ⟨w.heap.size, 0, none⟩ = some (.slice os ns cs) := fun x => (gI.out _ x.is).1.s.cells.1
      have gC2 : ∀ x : Cls I, x.w.cell? ⟨w.heap.size, 2, none⟩ = some (.int .i64 S.u) := fun x => (gI.out _ x.is).1.s.cells.2.2.1
      have K1 : Hid (∀ x : Cls I, Calls Try.prog 24 #[.agg #[.slice os ns cs]] x.w fun e w'' => e = .returned (.int .i64 (roomZ S.ss)) ∧ ∃ y : Cls I, w'' = y.w) := fun x => class_of st.out (HAR.out _ (gI.out _ x.is).1.s.rd)
      have J := (gI.out _ hI11).1
      obtain ⟨v0, v1, v2, v3, v4⟩ := J.s.cells
      have c0 := cell_of_row _ _ 0 _ _ _ J.f
      have c1 := cell_of_row _ _ 1 _ _ _ J.f
      simp only [List.getElem?_toArray, List.getElem?_cons_zero, List.getElem?_cons_succ] at c0 c1
      rw [HD.out] at v4
      go_upto_region 14 with fail
      clear J v0 v1 v2 v3 v4 c0 c1 hI11
      refine wp_region_class I (by kernel_rfl) (by kernel_rfl) hId ?_
      repeat (go_big_quiet_step (exact K1.out _))
      refine wpQuiet_nil ?_
      rintro _ ⟨x, rfl⟩
      have hx := x.is
      clear gC0 gC2 K1 hId
      go_wp2_with fail
      go_meet
      case rel => exact ⟨by rw [E.out], hx⟩
  case rest =>
    obtain ⟨rfl, hI10⟩ := hcut
    clear hI9
    generalize wc = w10 at *
    go_upto_if 76 with fail
    go_cut [76] (fun s76 wx => I wx)
    case first =>
      have A10 := (gI.out _ hI10).2.1.1
      have N10 := (gI.out _ hI10).2.2
      obtain ⟨a0, a1, a2, a3, a4⟩ := A10.cells
      by_cases hx : xa = 0
      · have C10 := (gI.out _ hI10).1
        have HRA := Lib.hid (HA2.out hx _ C10.s.rd)
        subst hx
        obtain ⟨v0, v1, v2, v3, v4⟩ := C10.s.cells
        have c0 := cell_of_row _ _ 0 _ _ _ C10.f
        have c1 := cell_of_row _ _ 1 _ _ _ C10.f
        simp only [List.getElem?_toArray, List.getElem?_cons_zero, List.getElem?_cons_succ] at c0 c1
        go_wp2_with fail
        refine HRA.out.mono ?_
        rintro e w11 ⟨⟨oC, nC, cC, rfl, hRC⟩, hB⟩
        have hI11 := st.out _ _ hI10 (hB.alloc hB.size (.cells #[.slice oC nC cC, .int .i64 Sa.g, .int .i64 Sa.u, .int .i64 Sa.t, .bool Sa.d] 26))
        have C11 := SVar.new (S := Sa) hRC
        clear a0 a1 a2 a3 a4 v0 v1 v2 v3 v4 c0 c1 C10 A10 N10 hI10 hRC hB HRA
        have A11 := (gI.out _ hI11).2.1.1
        have hnA : nA ≤ 1000 := by have h1 := A11.rd.len; have h2 := HLA.out; omega
        obtain ⟨a0, a1, a2, a3, a4⟩ := A11.cells
        obtain ⟨y0, y1, y2, y3, y4⟩ := C11.cells
        go_wp2_with fail
        refine (same4_any oA nA cA oC nC cC Sa _ A11.rd C11.rd hnA).mono ?_
        rintro e w12 ⟨rfl, hB⟩
        have hI12 := st.out _ _ hI11 hB
        clear a0 a1 a2 a3 a4 y0 y1 y2 y3 y4 A11 C11 hI11 hB
        go_wp2_with fail
        go_meet
        case rel => exact hI12
      · have bx : (xa == 0) = false := by rw [beq_eq_false_iff_ne]; exact hx
        have bx2 : (xa != 0) = true := by rw [bne, bx]; rfl
        obtain ⟨rfl, rfl⟩ := HA1.out hx
        obtain ⟨y0, y1, y2, y3, y4⟩ := N10.cells
        clear hx
        go_wp2_with fail
        refine (same4_any oA nA cA none 0 0 St.zero _ A10.rd (Rd.nil _) (by have := A10.rd.len; exact this ▸ Nat.zero_le _)).mono ?_
        rintro e w11 ⟨rfl, hB⟩
        have hI11 := st.out _ _ hI10 hB
        clear a0 a1 a2 a3 a4 y0 y1 y2 y3 y4 A10 N10 hI10 hB
        go_wp2_with fail
        go_meet
        case rel => exact hI11
    case rest =>
      have hI9 : I wc := hcut
      clear hcut hI10 HA1 HA2 HXA
      generalize wc = w9 at *
      go_upto_block 1 with fail
      go_cut [16] (fun s16 wx => s16 = .int .i64 ya ∧ I wx)
      case first =>
        cases sb
        · have E : Hid (ya = 1) := by show _ = _; rw [HYA.out]; exact turnE_1 HSB.out
          have J := (gI.out _ hI9).1
          obtain ⟨v0, v1, v2, v3, v4⟩ := J.s.cells
          have c0 := cell_of_row _ _ 0 _ _ _ J.f
          have c1 := cell_of_row _ _ 1 _ _ _ J.f
          simp only [List.getElem?_toArray, List.getElem?_cons_zero, List.getElem?_cons_succ] at c0 c1
          go_wp2_with fail
          refine (HRT.out _ J.s.rd).mono ?_
          rintro e w10 ⟨rfl, hB⟩
          have hI10 := st.out _ _ hI9 hB
          clear J v0 v1 v2 v3 v4 c0 c1 hB hI9
          have J := (gI.out _ hI10).1
          obtain ⟨v0, v1, v2, v3, v4⟩ := J.s.cells
          have c0 := cell_of_row _ _ 0 _ _ _ J.f
          have c1 := cell_of_row _ _ 1 _ _ _ J.f
          simp only [List.getElem?_toArray, List.getElem?_cons_zero, List.getElem?_cons_succ] at c0 c1
          go_wp2_with fail
          go_meet
          case rel => exact ⟨by rw [E.out], hI10⟩
        cases fm
        rotate_left
        · have E : Hid (ya = 1) := by show _ = _; rw [HYA.out]; exact turnE_2 HSB.out HFM.out
          have J := (gI.out _ hI9).1
          obtain ⟨v0, v1, v2, v3, v4⟩ := J.s.cells
          have c0 := cell_of_row _ _ 0 _ _ _ J.f
          have c1 := cell_of_row _ _ 1 _ _ _ J.f
          simp only [List.getElem?_toArray, List.getElem?_cons_zero, List.getElem?_cons_succ] at c0 c1
          go_wp2_with fail
          refine (HRT.out _ J.s.rd).mono ?_
          rintro e w10 ⟨rfl, hB⟩
          have hI10 := st.out _ _ hI9 hB
          clear J v0 v1 v2 v3 v4 c0 c1 hB hI9
          have J := (gI.out _ hI10).1
          obtain ⟨v0, v1, v2, v3, v4⟩ := J.s.cells
          have c0 := cell_of_row _ _ 0 _ _ _ J.f
          have c1 := cell_of_row _ _ 1 _ _ _ J.f
          simp only [List.getElem?_toArray, List.getElem?_cons_zero, List.getElem?_cons_succ] at c0 c1
          go_wp2_with fail
          refine (HFS.out _ J.fa).mono ?_
          rintro e w11 ⟨rfl, hB⟩
          have hI11 := st.out _ _ hI10 hB
          clear J v0 v1 v2 v3 v4 c0 c1 hB hI10
          have J := (gI.out _ hI11).1
          obtain ⟨v0, v1, v2, v3, v4⟩ := J.s.cells
          have c0 := cell_of_row _ _ 0 _ _ _ J.f
          have c1 := cell_of_row _ _ 1 _ _ _ J.f
          simp only [List.getElem?_toArray, List.getElem?_cons_zero, List.getElem?_cons_succ] at c0 c1
          go_wp2_with fail
          go_meet
          case rel => exact ⟨by rw [E.out], hI11⟩
        cases lm
        rotate_left
        · have E : Hid (ya = 2) := by show _ = _; rw [HYA.out]; exact turnE_3 HSB.out HFM.out HLG.out
          have J := (gI.out _ hI9).1
          obtain ⟨v0, v1, v2, v3, v4⟩ := J.s.cells
          have c0 := cell_of_row _ _ 0 _ _ _ J.f
          have c1 := cell_of_row _ _ 1 _ _ _ J.f
          simp only [List.getElem?_toArray, List.getElem?_cons_zero, List.getElem?_cons_succ] at c0 c1
          go_wp2_with fail
          refine (HRT.out _ J.s.rd).mono ?_
          rintro e w10 ⟨rfl, hB⟩
          have hI10 := st.out _ _ hI9 hB
          clear J v0 v1 v2 v3 v4 c0 c1 hB hI9
          have J := (gI.out _ hI10).1
          obtain ⟨v0, v1, v2, v3, v4⟩ := J.s.cells
          have c0 := cell_of_row _ _ 0 _ _ _ J.f
          have c1 := cell_of_row _ _ 1 _ _ _ J.f
          simp only [List.getElem?_toArray, List.getElem?_cons_zero, List.getElem?_cons_succ] at c0 c1
          go_wp2_with fail
          refine (HFS.out _ J.fa).mono ?_
          rintro e w11 ⟨rfl, hB⟩
          have hI11 := st.out _ _ hI10 hB
          clear J v0 v1 v2 v3 v4 c0 c1 hB hI10
          have J := (gI.out _ hI11).1
          obtain ⟨v0, v1, v2, v3, v4⟩ := J.s.cells
          have c0 := cell_of_row _ _ 0 _ _ _ J.f
          have c1 := cell_of_row _ _ 1 _ _ _ J.f
          simp only [List.getElem?_toArray, List.getElem?_cons_zero, List.getElem?_cons_succ] at c0 c1
          go_wp2_with fail
          refine (HPS.out _ J.l).mono ?_
          rintro e w' ⟨rfl, rfl⟩
          clear J v0 v1 v2 v3 v4 c0 c1
          have J := (gI.out _ hI11).1
          obtain ⟨v0, v1, v2, v3, v4⟩ := J.s.cells
          have c0 := cell_of_row _ _ 0 _ _ _ J.f
          have c1 := cell_of_row _ _ 1 _ _ _ J.f
          simp only [List.getElem?_toArray, List.getElem?_cons_zero, List.getElem?_cons_succ] at c0 c1
          go_wp2_with fail
          go_meet
          case rel => exact ⟨by rw [E.out], hI11⟩
        cases hd : S.d
        rotate_left
        · have E : Hid (ya = 9) := by show _ = _; rw [HYA.out]; exact turnE_4 HSB.out HFM.out HLG.out hd
          have HD := Lib.hid hd
          clear hd
          have J := (gI.out _ hI9).1
          obtain ⟨v0, v1, v2, v3, v4⟩ := J.s.cells
          have c0 := cell_of_row _ _ 0 _ _ _ J.f
          have c1 := cell_of_row _ _ 1 _ _ _ J.f
          simp only [List.getElem?_toArray, List.getElem?_cons_zero, List.getElem?_cons_succ] at c0 c1
          go_wp2_with fail
          refine (HRT.out _ J.s.rd).mono ?_
          rintro e w10 ⟨rfl, hB⟩
          have hI10 := st.out _ _ hI9 hB
          clear J v0 v1 v2 v3 v4 c0 c1 hB hI9
          have J := (gI.out _ hI10).1
          obtain ⟨v0, v1, v2, v3, v4⟩ := J.s.cells
          have c0 := cell_of_row _ _ 0 _ _ _ J.f
          have c1 := cell_of_row _ _ 1 _ _ _ J.f
          simp only [List.getElem?_toArray, List.getElem?_cons_zero, List.getElem?_cons_succ] at c0 c1
          go_wp2_with fail
          refine (HFS.out _ J.fa).mono ?_
          rintro e w11 ⟨rfl, hB⟩
          have hI11 := st.out _ _ hI10 hB
          clear J v0 v1 v2 v3 v4 c0 c1 hB hI10
          have J := (gI.out _ hI11).1
          obtain ⟨v0, v1, v2, v3, v4⟩ := J.s.cells
          have c0 := cell_of_row _ _ 0 _ _ _ J.f
          have c1 := cell_of_row _ _ 1 _ _ _ J.f
          simp only [List.getElem?_toArray, List.getElem?_cons_zero, List.getElem?_cons_succ] at c0 c1
          go_wp2_with fail
          refine (HPS.out _ J.l).mono ?_
          rintro e w' ⟨rfl, rfl⟩
          clear J v0 v1 v2 v3 v4 c0 c1
          have J := (gI.out _ hI11).1
          obtain ⟨v0, v1, v2, v3, v4⟩ := J.s.cells
          have c0 := cell_of_row _ _ 0 _ _ _ J.f
          have c1 := cell_of_row _ _ 1 _ _ _ J.f
          simp only [List.getElem?_toArray, List.getElem?_cons_zero, List.getElem?_cons_succ] at c0 c1
          rw [HD.out] at v4
          go_wp2_with fail
          go_meet
          case rel => exact ⟨by rw [E.out], hI11⟩
        have HD := Lib.hid hd
        clear hd
        obtain ⟨s1, s2, s3, s4, s5, s6, s7⟩ := (sto_iff _ _ _ _).1 HSB.out
        have hg0 : 0 ≤ S.g := by omega
        have hg1 : S.g ≤ 1000 := by omega
        have ht0 : 0 ≤ S.t := by omega
        have ht1 : S.t ≤ 900 := by omega
        have HN2 : Hid (∀ wx, Calls Try.prog 28 #[.agg #[.slice os ns cs, .int .i64 S.g, .int .i64 S.u, .int .i64 S.t, .bool S.d]] wx fun e w' => e = .returned (.int .i64 (nextZ S.g S.t)) ∧ Below wx.heap.size wx w') := fun wx => HNX.out wx hg0 hg1 ht0 ht1
        rw [HD.out] at HN2
        clear s1 s2 s3 s4 s5 s6 s7 hg0 hg1 ht0 ht1 HNX
        by_cases hr : roomZ S.ss < (nm : Int)
        · have E : Hid (ya = 5) := by show _ = _; rw [HYA.out]; exact turnE_5 HSB.out HFM.out HLG.out HD.out (Or.inl (by rw [HLN.out]; exact hr))
          have J := (gI.out _ hI9).1
          obtain ⟨v0, v1, v2, v3, v4⟩ := J.s.cells
          have c0 := cell_of_row _ _ 0 _ _ _ J.f
          have c1 := cell_of_row _ _ 1 _ _ _ J.f
          simp only [List.getElem?_toArray, List.getElem?_cons_zero, List.getElem?_cons_succ] at c0 c1
          go_wp2_with fail
          refine (HRT.out _ J.s.rd).mono ?_
          rintro e w10 ⟨rfl, hB⟩
          have hI10 := st.out _ _ hI9 hB
          clear J v0 v1 v2 v3 v4 c0 c1 hB hI9
          have J := (gI.out _ hI10).1
          obtain ⟨v0, v1, v2, v3, v4⟩ := J.s.cells
          have c0 := cell_of_row _ _ 0 _ _ _ J.f
          have c1 := cell_of_row _ _ 1 _ _ _ J.f
          simp only [List.getElem?_toArray, List.getElem?_cons_zero, List.getElem?_cons_succ] at c0 c1
          go_wp2_with fail
          refine (HFS.out _ J.fa).mono ?_
          rintro e w11 ⟨rfl, hB⟩
          have hI11 := st.out _ _ hI10 hB
          clear J v0 v1 v2 v3 v4 c0 c1 hB hI10
          have J := (gI.out _ hI11).1
          obtain ⟨v0, v1, v2, v3, v4⟩ := J.s.cells
          have c0 := cell_of_row _ _ 0 _ _ _ J.f
          have c1 := cell_of_row _ _ 1 _ _ _ J.f
          simp only [List.getElem?_toArray, List.getElem?_cons_zero, List.getElem?_cons_succ] at c0 c1
          go_wp2_with fail
          refine (HPS.out _ J.l).mono ?_
          rintro e w' ⟨rfl, rfl⟩
          clear J v0 v1 v2 v3 v4 c0 c1
          have J := (gI.out _ hI11).1
          obtain ⟨v0, v1, v2, v3, v4⟩ := J.s.cells
          have c0 := cell_of_row _ _ 0 _ _ _ J.f
          have c1 := cell_of_row _ _ 1 _ _ _ J.f
          simp only [List.getElem?_toArray, List.getElem?_cons_zero, List.getElem?_cons_succ] at c0 c1
          rw [HD.out] at v4
          go_wp2_with fail
          refine (HAR.out _ J.s.rd).mono ?_
          rintro e w12 ⟨rfl, hB⟩
          have hI12 := st.out _ _ hI11 hB
          clear J v0 v1 v2 v3 v4 c0 c1 hB hI11
          generalize roomZ S.ss = rz at *
          have J := (gI.out _ hI12).1
          obtain ⟨v0, v1, v2, v3, v4⟩ := J.s.cells
          have c0 := cell_of_row _ _ 0 _ _ _ J.f
          have c1 := cell_of_row _ _ 1 _ _ _ J.f
          simp only [List.getElem?_toArray, List.getElem?_cons_zero, List.getElem?_cons_succ] at c0 c1
          go_wp2_with fail
          go_meet
          case rel => exact ⟨by rw [E.out], hI12⟩
        by_cases hx : 250 < nextZ S.g S.t
        · have E : Hid (ya = 5) := by show _ = _; rw [HYA.out]; exact turnE_5 HSB.out HFM.out HLG.out HD.out (Or.inr hx)
          have J := (gI.out _ hI9).1
          obtain ⟨v0, v1, v2, v3, v4⟩ := J.s.cells
          have c0 := cell_of_row _ _ 0 _ _ _ J.f
          have c1 := cell_of_row _ _ 1 _ _ _ J.f
          simp only [List.getElem?_toArray, List.getElem?_cons_zero, List.getElem?_cons_succ] at c0 c1
          go_wp2_with fail
          refine (HRT.out _ J.s.rd).mono ?_
          rintro e w10 ⟨rfl, hB⟩
          have hI10 := st.out _ _ hI9 hB
          clear J v0 v1 v2 v3 v4 c0 c1 hB hI9
          have J := (gI.out _ hI10).1
          obtain ⟨v0, v1, v2, v3, v4⟩ := J.s.cells
          have c0 := cell_of_row _ _ 0 _ _ _ J.f
          have c1 := cell_of_row _ _ 1 _ _ _ J.f
          simp only [List.getElem?_toArray, List.getElem?_cons_zero, List.getElem?_cons_succ] at c0 c1
          go_wp2_with fail
          refine (HFS.out _ J.fa).mono ?_
          rintro e w11 ⟨rfl, hB⟩
          have hI11 := st.out _ _ hI10 hB
          clear J v0 v1 v2 v3 v4 c0 c1 hB hI10
          have J := (gI.out _ hI11).1
          obtain ⟨v0, v1, v2, v3, v4⟩ := J.s.cells
          have c0 := cell_of_row _ _ 0 _ _ _ J.f
          have c1 := cell_of_row _ _ 1 _ _ _ J.f
          simp only [List.getElem?_toArray, List.getElem?_cons_zero, List.getElem?_cons_succ] at c0 c1
          go_wp2_with fail
          refine (HPS.out _ J.l).mono ?_
          rintro e w' ⟨rfl, rfl⟩
          clear J v0 v1 v2 v3 v4 c0 c1
          have J := (gI.out _ hI11).1
          obtain ⟨v0, v1, v2, v3, v4⟩ := J.s.cells
          have c0 := cell_of_row _ _ 0 _ _ _ J.f
          have c1 := cell_of_row _ _ 1 _ _ _ J.f
          simp only [List.getElem?_toArray, List.getElem?_cons_zero, List.getElem?_cons_succ] at c0 c1
          rw [HD.out] at v4
          go_wp2_with fail
          refine (HAR.out _ J.s.rd).mono ?_
          rintro e w12 ⟨rfl, hB⟩
          have hI12 := st.out _ _ hI11 hB
          clear J v0 v1 v2 v3 v4 c0 c1 hB hI11
          generalize roomZ S.ss = rz at *
          have J := (gI.out _ hI12).1
          obtain ⟨v0, v1, v2, v3, v4⟩ := J.s.cells
          have c0 := cell_of_row _ _ 0 _ _ _ J.f
          have c1 := cell_of_row _ _ 1 _ _ _ J.f
          simp only [List.getElem?_toArray, List.getElem?_cons_zero, List.getElem?_cons_succ] at c0 c1
          rw [HD.out] at v4
          go_wp2_with fail
          refine (HN2.out _).mono ?_
          rintro e w13 ⟨rfl, hB⟩
          have hI13 := st.out _ _ hI12 hB
          clear J v0 v1 v2 v3 v4 c0 c1 hB hI12
          generalize nextZ S.g S.t = nz at *
          have J := (gI.out _ hI13).1
          obtain ⟨v0, v1, v2, v3, v4⟩ := J.s.cells
          have c0 := cell_of_row _ _ 0 _ _ _ J.f
          have c1 := cell_of_row _ _ 1 _ _ _ J.f
          simp only [List.getElem?_toArray, List.getElem?_cons_zero, List.getElem?_cons_succ] at c0 c1
          go_wp2_with fail
          go_meet
          case rel => exact ⟨by rw [E.out], hI13⟩
        · have E : Hid (ya = 0) := by show _ = _; rw [HYA.out]; exact turnE_6 HSB.out HFM.out HLG.out HD.out (by rw [HLN.out]; omega)
          have J := (gI.out _ hI9).1
          obtain ⟨v0, v1, v2, v3, v4⟩ := J.s.cells
          have c0 := cell_of_row _ _ 0 _ _ _ J.f
          have c1 := cell_of_row _ _ 1 _ _ _ J.f
          simp only [List.getElem?_toArray, List.getElem?_cons_zero, List.getElem?_cons_succ] at c0 c1
          go_wp2_with fail
          refine (HRT.out _ J.s.rd).mono ?_
          rintro e w10 ⟨rfl, hB⟩
          have hI10 := st.out _ _ hI9 hB
          clear J v0 v1 v2 v3 v4 c0 c1 hB hI9
          have J := (gI.out _ hI10).1
          obtain ⟨v0, v1, v2, v3, v4⟩ := J.s.cells
          have c0 := cell_of_row _ _ 0 _ _ _ J.f
          have c1 := cell_of_row _ _ 1 _ _ _ J.f
          simp only [List.getElem?_toArray, List.getElem?_cons_zero, List.getElem?_cons_succ] at c0 c1
          go_wp2_with fail
          refine (HFS.out _ J.fa).mono ?_
          rintro e w11 ⟨rfl, hB⟩
          have hI11 := st.out _ _ hI10 hB
          clear J v0 v1 v2 v3 v4 c0 c1 hB hI10
          have J := (gI.out _ hI11).1
          obtain ⟨v0, v1, v2, v3, v4⟩ := J.s.cells
          have c0 := cell_of_row _ _ 0 _ _ _ J.f
          have c1 := cell_of_row _ _ 1 _ _ _ J.f
          simp only [List.getElem?_toArray, List.getElem?_cons_zero, List.getElem?_cons_succ] at c0 c1
          go_wp2_with fail
          refine (HPS.out _ J.l).mono ?_
          rintro e w' ⟨rfl, rfl⟩
          clear J v0 v1 v2 v3 v4 c0 c1
          have J := (gI.out _ hI11).1
          obtain ⟨v0, v1, v2, v3, v4⟩ := J.s.cells
          have c0 := cell_of_row _ _ 0 _ _ _ J.f
          have c1 := cell_of_row _ _ 1 _ _ _ J.f
          simp only [List.getElem?_toArray, List.getElem?_cons_zero, List.getElem?_cons_succ] at c0 c1
          rw [HD.out] at v4
          go_wp2_with fail
          refine (HAR.out _ J.s.rd).mono ?_
          rintro e w12 ⟨rfl, hB⟩
          have hI12 := st.out _ _ hI11 hB
          clear J v0 v1 v2 v3 v4 c0 c1 hB hI11
          generalize roomZ S.ss = rz at *
          have J := (gI.out _ hI12).1
          obtain ⟨v0, v1, v2, v3, v4⟩ := J.s.cells
          have c0 := cell_of_row _ _ 0 _ _ _ J.f
          have c1 := cell_of_row _ _ 1 _ _ _ J.f
          simp only [List.getElem?_toArray, List.getElem?_cons_zero, List.getElem?_cons_succ] at c0 c1
          rw [HD.out] at v4
          go_wp2_with fail
          refine (HN2.out _).mono ?_
          rintro e w13 ⟨rfl, hB⟩
          have hI13 := st.out _ _ hI12 hB
          clear J v0 v1 v2 v3 v4 c0 c1 hB hI12
          generalize nextZ S.g S.t = nz at *
          have J := (gI.out _ hI13).1
          obtain ⟨v0, v1, v2, v3, v4⟩ := J.s.cells
          have c0 := cell_of_row _ _ 0 _ _ _ J.f
          have c1 := cell_of_row _ _ 1 _ _ _ J.f
          simp only [List.getElem?_toArray, List.getElem?_cons_zero, List.getElem?_cons_succ] at c0 c1
          go_wp2_with fail
          go_meet
          case rel => exact ⟨by rw [E.out], hI13⟩
      case rest =>
        obtain ⟨rfl, hI10⟩ := hcut
        clear hI9
        generalize wc = w10 at *
        have A10 := (gI.out _ hI10).2.1.2
        have N10 := (gI.out _ hI10).2.2
        by_cases hx : ya = 0
        · have C10 := (gI.out _ hI10).1
          have HRA := Lib.hid (HB2.out hx _ C10)
          subst hx
          obtain ⟨v0, v1, v2, v3, v4⟩ := C10.s.cells
          go_wp2_with fail
          refine HRA.out.mono ?_
          rintro e w11 ⟨⟨oC, nC, cC, rfl, hRC⟩, hB⟩
          have hI11 := st.out _ _ hI10 (hB.alloc hB.size (.cells #[.slice oC nC cC, .int .i64 Sb.g, .int .i64 Sb.u, .int .i64 Sb.t, .bool Sb.d] 26))
          have C11 := SVar.new (S := Sb) hRC
          clear v0 v1 v2 v3 v4 C10 A10 N10 hI10 hRC hB HRA
          have A11 := (gI.out _ hI11).2.1.2
          have hnB : nB ≤ 1000 := by have h1 := A11.rd.len; have h2 := HLB.out; omega
          obtain ⟨a0, a1, a2, a3, a4⟩ := A11.cells
          obtain ⟨y0, y1, y2, y3, y4⟩ := C11.cells
          go_wp2_with fail
          refine (same4_any oB nB cB oC nC cC Sb _ A11.rd C11.rd hnB).mono ?_
          rintro e w12 ⟨rfl, hB⟩
          have hB12 := (gI.out _ (st.out _ _ hI11 hB)).1.below
          go_wp2_with fail
          go_ret
          exact ⟨rfl, hB12⟩
        · have bx : (ya == 0) = false := by rw [beq_eq_false_iff_ne]; exact hx
          have bx2 : (ya != 0) = true := by rw [bne, bx]; rfl
          obtain ⟨rfl, rfl⟩ := HB1.out hx
          obtain ⟨a0, a1, a2, a3, a4⟩ := A10.cells
          obtain ⟨y0, y1, y2, y3, y4⟩ := N10.cells
          clear hx
          go_wp2_with fail
          refine (same4_any oB nB cB none 0 0 St.zero _ A10.rd (Rd.nil _) (by have := A10.rd.len; exact this ▸ Nat.zero_le _)).mono ?_
          rintro e w11 ⟨rfl, hB⟩
          have hB11 := (gI.out _ (st.out _ _ hI10 hB)).1.below
          go_wp2_with fail
          go_ret
          exact ⟨rfl, hB11⟩
end Go.Proofs.Ytmjbhmmcpjhmcaa.storeWrites
