/-
  All records anew.
-/
import Derived.Test.YtmjbhmmcpjhmcaaLogU
namespace Go.Proofs.Ytmjbhmmcpjhmcaa
open Go.RowKit
set_option linter.unusedVariables false
attribute [local go_sem ↓] Go.wp_at_zero Go.wp_at_succ

/-- why nothing is written anew, or 0 -/
def turnE (S : St) (l : List ByteArray) (fs : List (Int × Int)) : Int :=
  if stoB S.ss S.g S.u S.t && !(fs.any fun f => !faultB f) then (if l.any longB then 2 else if S.d then 9 else if roomZ S.ss < (l.length : Int) ∨ 250 < nextZ S.g S.t then 5 else 0) else 1
/-- the writes -/
def turnM (S : St) (l : List ByteArray) (fs : List (Int × Int)) : List ByteArray × Bool × Int := wrM S.ss S.d (pagesG S.ss (nextZ S.g S.t) l) fs
/-- the store behind them -/
def turnS (S : St) (l : List ByteArray) (fs : List (Int × Int)) : St :=
  if turnE S l fs = 0 then ⟨(turnM S l fs).1, if (turnM S l fs).2.2 = 0 then nextZ S.g S.t else S.g, if (turnM S l fs).2.2 = 0 then (l.length : Int) else S.u, nextZ S.g S.t, (turnM S l fs).2.1⟩ else St.zero
def turnW (S : St) (l : List ByteArray) (fs : List (Int × Int)) : Int := if turnE S l fs = 0 then (turnM S l fs).2.2 else turnE S l fs
theorem turn_no {S : St} {l : List ByteArray} {fs : List (Int × Int)} {er : Int} (h : turnE S l fs = er) (hne : er ≠ 0) : St.zero = turnS S l fs ∧ er = turnW S l fs := by
  unfold turnS turnW
  rw [h, if_neg hne, if_neg hne]
  exact ⟨rfl, rfl⟩
theorem turnE_1 {S : St} {l : List ByteArray} {fs : List (Int × Int)} (h : stoB S.ss S.g S.u S.t = false) : turnE S l fs = 1 := by unfold turnE; rw [h]; rfl
theorem turnE_2 {S : St} {l : List ByteArray} {fs : List (Int × Int)} (h : stoB S.ss S.g S.u S.t = true) (h2 : (fs.any fun f => !faultB f) = true) : turnE S l fs = 1 := by unfold turnE; rw [h, h2]; rfl
theorem turnE_3 {S : St} {l : List ByteArray} {fs : List (Int × Int)} (h : stoB S.ss S.g S.u S.t = true) (h2 : (fs.any fun f => !faultB f) = false) (h3 : l.any longB = true) : turnE S l fs = 2 := by unfold turnE; rw [h, h2, h3]; rfl
theorem turnE_4 {S : St} {l : List ByteArray} {fs : List (Int × Int)} (h : stoB S.ss S.g S.u S.t = true) (h2 : (fs.any fun f => !faultB f) = false) (h3 : l.any longB = false) (h4 : S.d = true) : turnE S l fs = 9 := by unfold turnE; rw [h, h2, h3, h4]; rfl
theorem turnE_5 {S : St} {l : List ByteArray} {fs : List (Int × Int)} (h : stoB S.ss S.g S.u S.t = true) (h2 : (fs.any fun f => !faultB f) = false) (h3 : l.any longB = false) (h4 : S.d = false) (h5 : roomZ S.ss < (l.length : Int) ∨ 250 < nextZ S.g S.t) : turnE S l fs = 5 := by unfold turnE; rw [h, h2, h3, h4, if_pos h5]; rfl
theorem turnE_6 {S : St} {l : List ByteArray} {fs : List (Int × Int)} (h : stoB S.ss S.g S.u S.t = true) (h2 : (fs.any fun f => !faultB f) = false) (h3 : l.any longB = false) (h4 : S.d = false) (h5 : ¬ (roomZ S.ss < (l.length : Int) ∨ 250 < nextZ S.g S.t)) : turnE S l fs = 0 := by unfold turnE; rw [h, h2, h3, h4, if_neg h5]; rfl
theorem faults_all {fs : List (Int × Int)} (h : (fs.any fun f => !faultB f) = false) : ∀ f ∈ fs, faultB f = true := by
  intro f hf
  have := List.any_eq_false.1 h f hf
  simpa using this
theorem longs_all {l : List ByteArray} (h : l.any longB = false) : ∀ p ∈ l, p.size ≤ 96 := by
  intro p hp
  have := List.any_eq_false.1 h p hp
  unfold longB at this
  simpa using this
theorem next_gt (g t : Int) : t < nextZ g t ∧ nextZ g t ≤ t + 2 := by
  unfold nextZ
  split <;> omega
theorem next_area {g t : Int} : hdN (nextZ g t) = 1 - hdN g := by
  unfold nextZ hdN
  split <;> omega
theorem SRow.set1 {w : World} {A : Nat} {x : Value} {g u t : Int} {d : Bool} (h : SRow w A x g u t d) (v : Int) : SRow (w.setCell ⟨A, 1, none⟩ (.int .i64 v)) A x v u t d := by
  unfold SRow
  rw [heap_setCell_same _ _ _ _ _ _ h]
  rfl
theorem SRow.set3 {w : World} {A : Nat} {x : Value} {g u t : Int} {d : Bool} (h : SRow w A x g u t d) (v : Int) : SRow (w.setCell ⟨A, 3, none⟩ (.int .i64 v)) A x g u v d := by
  unfold SRow
  rw [heap_setCell_same _ _ _ _ _ _ h]
  rfl
theorem SVar.set1 {w : World} {A : Nat} {oa : Option Addr} {n cap : Nat} {S : St} (h : SVar w A oa n cap S) (v : Int) : SVar (w.setCell ⟨A, 1, none⟩ (.int .i64 v)) A oa n cap ⟨S.ss, v, S.u, S.t, S.d⟩ :=
  ⟨h.row.set1 v, h.rd.setInt h.row.mids.1 _⟩
theorem SVar.set3 {w : World} {A : Nat} {oa : Option Addr} {n cap : Nat} {S : St} (h : SVar w A oa n cap S) (v : Int) : SVar (w.setCell ⟨A, 3, none⟩ (.int .i64 v)) A oa n cap ⟨S.ss, S.g, S.u, v, S.d⟩ :=
  ⟨h.row.set3 v, h.rd.setInt h.row.mids.2.2 _⟩
/-- what stands in memory meanwhile -/
structure TurnI (w0 : World) (oa : Option Addr) (n cap : Nat) (S : St) (w : World) : Prop where
  var : SVar w w0.heap.size oa n cap S
  res : SRow w (w0.heap.size + 1) (.slice none 0 0) 0 0 0 false
  below : Below w0.heap.size w0 w
theorem TurnI.stable (w0 : World) (oa : Option Addr) (n cap : Nat) (S : St) : Stable (TurnI w0 oa n cap S) :=
  fun _ _ h hB => ⟨h.var.keep hB, h.res.keep hB, h.below.trans (hB.mono h.below.size)⟩
theorem TurnI.top {w0 : World} {oa : Option Addr} {n cap : Nat} {S : St} {w : World} (h : TurnI w0 oa n cap S w) (v : Int) : TurnI w0 oa n cap ⟨S.ss, S.g, S.u, v, S.d⟩ (w.setCell ⟨w0.heap.size, 3, none⟩ (.int .i64 v)) :=
  ⟨h.var.set3 v, h.res.far (by omega) _ _, h.below.setCell (Nat.le_refl _) _⟩
set_option maxRecDepth 100000 in
set_option maxHeartbeats 1600000 in
theorem turn_any (oa : Option Addr) (n cap : Nat) (S : St) (ol : Option Addr) (nl cl : Nat) (l : List ByteArray) (of : Option Addr) (nf cf : Nat) (fs : List (Int × Int)) (w : World) (hR : Rd w oa n cap S.ss) (hn : n ≤ 1000) (hA : ARd w ol nl cl l) (hnl : nl ≤ 1000) (hF : FRd w of nf cf fs) (hnf : nf ≤ 1000) :
    Calls Try.prog 22 #[.agg #[.slice oa n cap, .int .i64 S.g, .int .i64 S.u, .int .i64 S.t, .bool S.d], .slice ol nl cl, .slice of nf cf] w fun e w' => TellS e w' (turnS S l fs) (turnW S l fs) ∧ Below w.heap.size w w' := by
  obtain ⟨W0, hW0⟩ : ∃ W0, W0 = (w.alloc (.cells #[.slice oa n cap, .int .i64 S.g, .int .i64 S.u, .int .i64 S.t, .bool S.d] 26)).alloc (.cells #[.slice none 0 0, .int .i64 0, .int .i64 0, .int .i64 0, .bool false] 26) := ⟨_, rfl⟩
  have hI : TurnI w oa n cap S W0 := by
    refine ⟨?_, ?_, ?_⟩
    · rw [hW0]; exact (SVar.new hR).keep (below_alloc _ _)
    · unfold SRow
      rw [hW0]
      have := heap_alloc_new (w.alloc (.cells #[.slice oa n cap, .int .i64 S.g, .int .i64 S.u, .int .i64 S.t, .bool S.d] 26)) (.cells #[.slice none 0 0, .int .i64 0, .int .i64 0, .int .i64 0, .bool false] 26)
      simpa using this
    · rw [hW0]; exact (below_alloc w _).alloc (by simp) _
  have HW := Lib.hid hW0
  clear hW0
  have hlen := Lib.hid hR.len
  have hll := Lib.hid hA.len
  obtain ⟨I, hID⟩ : ∃ I : World → Prop, I = TurnI w oa n cap S := ⟨_, rfl⟩
  have st : Hid (Stable I) := by rw [hID]; exact TurnI.stable w oa n cap S
  have gI : Hid (∀ wx, I wx → TurnI w oa n cap S wx) := by intro wx h; rw [hID] at h; exact h
  have hI0 : I W0 := by rw [hID]; exact hI
  clear hID hR
  obtain ⟨v0, v1, v2, v3, v4⟩ := hI.var.cells
  have hw0 : w.heap.size ≤ w.heap.size + 1 := by omega
  have R1 := Lib.hid (right4_any oa n cap S.ss S.g S.u S.t S.d W0 hI.var.rd hn)
  clear hI
  have HFA := Lib.hid hF
  have HAA := Lib.hid hA
  clear hF hA
  go_enter Try.func22, Try.ntmps22
  go_wp2_with fail
  rw [← HW.out]
  clear HW
  refine R1.out.mono ?_
  rintro e w1 ⟨rfl, hB⟩
  have hI1 := st.out _ _ hI0 hB
  clear v0 v1 v2 v3 v4 hB R1 hI0
  cases b1 : stoB S.ss S.g S.u S.t
  · have HE := Lib.hid (turn_no (turnE_1 (l := l) (fs := fs) b1) (by decide))
    clear b1
    have J := gI.out _ hI1
    obtain ⟨p0, p1, p2, p3, p4⟩ := J.res.cells
    have pf := J.res.free
    go_wp2_with fail
    refine tell_at HE.out.1 HE.out.2 ?_
    exact end_none rfl rfl rfl J.res J.below hw0
  have B1 := Lib.hid b1
  clear b1
  have J1 := gI.out _ hI1
  have K2 := Lib.hid (anyFault_any of nf cf fs w1 (HFA.out.below J1.below (Nat.le_refl _)) hnf)
  clear J1
  go_wp2_with fail
  refine K2.out.mono ?_
  rintro e w2 ⟨rfl, hB⟩
  have hI2 := st.out _ _ hI1 hB
  clear hB hI1 K2
  cases b2 : fs.any fun f => !faultB f
  rotate_left
  · have HE := Lib.hid (turn_no (turnE_2 (l := l) B1.out b2) (by decide))
    clear b2
    have J := gI.out _ hI2
    obtain ⟨p0, p1, p2, p3, p4⟩ := J.res.cells
    have pf := J.res.free
    go_wp2_with fail
    refine tell_at HE.out.1 HE.out.2 ?_
    exact end_none rfl rfl rfl J.res J.below hw0
  have B2 := Lib.hid b2
  clear b2
  have J2 := gI.out _ hI2
  have K3 := Lib.hid (anyLong_any ol nl cl l w2 (HAA.out.below J2.below) hnl)
  clear J2
  go_wp2_with fail
  refine K3.out.mono ?_
  rintro e w3 ⟨rfl, hB⟩
  have hI3 := st.out _ _ hI2 hB
  clear hB hI2 K3
  cases b3 : l.any longB
  rotate_left
  · have HE := Lib.hid (turn_no (turnE_3 B1.out B2.out b3) (by decide))
    clear b3
    have J := gI.out _ hI3
    obtain ⟨p0, p1, p2, p3, p4⟩ := J.res.cells
    have pf := J.res.free
    go_wp2_with fail
    refine tell_at HE.out.1 HE.out.2 ?_
    exact end_none rfl rfl rfl J.res J.below hw0
  have B3 := Lib.hid b3
  clear b3
  have J3 := gI.out _ hI3
  obtain ⟨v0, v1, v2, v3, v4⟩ := J3.var.cells
  have HJ3 := Lib.hid J3
  clear J3
  cases b4 : S.d
  rotate_left
  · have HE := Lib.hid (turn_no (turnE_4 B1.out B2.out B3.out b4) (by decide))
    rw [b4] at v4
    clear b4
    have J := gI.out _ hI3
    obtain ⟨p0, p1, p2, p3, p4⟩ := J.res.cells
    have pf := J.res.free
    go_wp2_with fail
    refine tell_at HE.out.1 HE.out.2 ?_
    exact end_none rfl rfl rfl J.res J.below hw0
  rw [b4] at v4
  have B4 := Lib.hid b4
  clear b4
  have HF := Lib.hid ((sto_iff _ _ _ _).1 B1.out)
  have hb : 0 ≤ S.g ∧ S.g ≤ 1000 ∧ 0 ≤ S.t ∧ S.t ≤ 900 := by have := HF.out; omega
  have K4 := Lib.hid (nextGen_any (.slice oa n cap) S.g S.u S.t false w3 hb.1 hb.2.1 hb.2.2.1 hb.2.2.2)
  have hnx := next_gt S.g S.t
  have hn0 : 0 ≤ nextZ S.g S.t := by have := hb.2.2.1; omega
  have hn1 : nextZ S.g S.t ≤ 1000 := by have := hb.2.2.2; omega
  clear hb hnx
  go_wp2_with fail
  refine K4.out.mono ?_
  rintro e w4 ⟨rfl, hB⟩
  have hI4 := st.out _ _ hI3 hB
  clear hB hI3 K4 v0 v1 v2 v3 v4 HJ3
  have HN : Hid (hdN (nextZ S.g S.t) = 1 - hdN S.g) := next_area
  have HTE : Hid (∀ b, (roomZ S.ss < (l.length : Int) ∨ 250 < nextZ S.g S.t) = b → b → turnE S l fs = 5) := by
    intro b hb h
    exact turnE_5 B1.out B2.out B3.out B4.out (hb ▸ h)
  have HTO : Hid (¬ (roomZ S.ss < (l.length : Int) ∨ 250 < nextZ S.g S.t) → turnE S l fs = 0) := fun h => turnE_6 B1.out B2.out B3.out B4.out h
  have HTS : Hid (turnE S l fs = 0 → turnS S l fs = ⟨(turnM S l fs).1, if (turnM S l fs).2.2 = 0 then nextZ S.g S.t else S.g, if (turnM S l fs).2.2 = 0 then (l.length : Int) else S.u, nextZ S.g S.t, (turnM S l fs).2.1⟩ ∧ turnW S l fs = (turnM S l fs).2.2) := by
    intro h
    unfold turnS turnW
    rw [if_pos h, if_pos h]
    exact ⟨rfl, rfl⟩
  have HTM : Hid (turnM S l fs = wrM S.ss false (pagesG S.ss (nextZ S.g S.t) l) fs) := by show _ = _; unfold turnM; rw [B4.out]
  have K5 := Lib.hid (room_any oa n cap S.ss w4 hlen.out hn)
  have hrm : roomZ S.ss = (roomN S.ss : Int) ∧ roomN S.ss ≤ 64 := by have := room_eq HF.out.1; omega
  obtain ⟨hrm1, hrm2⟩ := hrm
  rw [hrm1] at K5 HTE HTO
  rw [hll.out] at HTE HTO HTS
  have HRM := Lib.hid hrm1
  clear hrm1
  have J4 := gI.out _ hI4
  obtain ⟨v0, v1, v2, v3, v4⟩ := J4.var.cells
  have HJ4 := Lib.hid J4
  clear J4
  generalize hh : nextZ S.g S.t = h at *
  have HH := Lib.hid hh
  clear hh
  go_wp2_with fail
  refine K5.out.mono ?_
  rintro e w5 ⟨rfl, hB⟩
  have hI5 := st.out _ _ hI4 hB
  clear hB hI4 K5 v0 v1 v2 v3 v4 HJ4
  generalize hR' : roomN S.ss = R at *
  have HR' := Lib.hid hR'
  clear hR'
  by_cases c1 : R < nl
  · have HE := Lib.hid (turn_no (HTE.out _ rfl (Or.inl (by omega))) (by decide))
    have J := gI.out _ hI5
    obtain ⟨p0, p1, p2, p3, p4⟩ := J.res.cells
    have pf := J.res.free
    clear HTE HTO HTS
    go_wp2_with fail
    refine tell_at HE.out.1 HE.out.2 ?_
    exact end_none rfl rfl rfl J.res J.below hw0
  by_cases c2 : 250 < h
  · have HE := Lib.hid (turn_no (HTE.out _ rfl (Or.inr c2)) (by decide))
    have J := gI.out _ hI5
    obtain ⟨p0, p1, p2, p3, p4⟩ := J.res.cells
    have pf := J.res.free
    clear HTE HTO HTS
    go_wp2_with fail
    refine tell_at HE.out.1 HE.out.2 ?_
    exact end_none rfl rfl rfl J.res J.below hw0
  have HE := Lib.hid (HTO.out (by omega))
  have HE2 := Lib.hid (HTS.out HE.out)
  clear HTE HTO HTS
  have J5 := gI.out _ hI5
  obtain ⟨v0, v1, v2, v3, v4⟩ := J5.var.cells
  have vf := J5.var.row.free
  obtain ⟨W6, hW6⟩ : ∃ W6, W6 = w5.setCell ⟨w.heap.size, 3, none⟩ (.int .i64 h) := ⟨_, rfl⟩
  obtain ⟨I2, hID⟩ : ∃ I2 : World → Prop, I2 = TurnI w oa n cap ⟨S.ss, S.g, S.u, h, false⟩ := ⟨_, rfl⟩
  have st2 : Hid (Stable I2) := by rw [hID]; exact TurnI.stable w oa n cap _
  have gI2 : Hid (∀ wx, I2 wx → TurnI w oa n cap ⟨S.ss, S.g, S.u, h, false⟩ wx) := by intro wx q; rw [hID] at q; exact q
  have hI6 : I2 W6 := by
    rw [hID, hW6]
    have := J5.top h
    rw [B4.out] at this
    exact this
  have HW6 := Lib.hid hW6
  have HJ5 := Lib.hid J5
  clear hID hW6 J5 hI5
  go_wp2_with fail
  rw [← HW6.out]
  clear HW6 HJ5 v0 v1 v2 v3 v4 vf
  refine wp_region_taken I2 7 (by kernel_rfl) ?_
  have hI7 := st2.out.drew hI6
  clear hI6
  generalize W6.drew = wd at *
  refine wpT_take (i := 0) (v := .agg #[.slice oa n cap, .int .i64 S.g, .int .i64 S.u, .int .i64 h, .bool false]) rfl (by kernel_rfl) (by kernel_rfl) (by kernel_rfl) (fun _ _ _ h => h) (Or.inl ⟨by rfl, fun v hv => ?_⟩) hI7 ?_
  · obtain ⟨v0, v1, v2, v3, v4⟩ := (gI2.out _ hv).var.cells
    dsimp only at v1 v2 v3 v4
    go_simp
  refine wpT_take (i := 1) (v := .pointer (some ⟨w.heap.size, 0, none⟩)) rfl (by kernel_rfl) (by kernel_rfl) (by kernel_rfl) (fun _ _ _ h => h) (Or.inl ⟨by rfl, fun v hv => by go_simp⟩) hI7 ?_
  refine wpT_take (i := 2) (v := .agg #[.slice oa n cap]) rfl (by kernel_rfl) (by kernel_rfl) (by kernel_rfl) (fun _ _ _ h => h) (Or.inl ⟨by rfl, fun v hv => ?_⟩) hI7 ?_
  · obtain ⟨v0, v1, v2, v3, v4⟩ := (gI2.out _ hv).var.cells
    go_simp
  refine wpT_take (i := 3) (v := .int .i64 h) rfl (by kernel_rfl) (by kernel_rfl) (by kernel_rfl) (fun _ _ _ h => h) (Or.inl ⟨by rfl, fun v hv => by go_simp⟩) hI7 ?_
  refine wpT_take (i := 4) (v := .slice ol nl cl) rfl (by kernel_rfl) (by kernel_rfl) (by kernel_rfl) (fun _ _ _ h => h) (Or.inl ⟨by rfl, fun v hv => by go_simp⟩) hI7 ?_
  refine wpT_take (i := 6) (v := .slice of nf cf) rfl (by kernel_rfl) (by kernel_rfl) (by kernel_rfl) (fun _ _ _ h => h) (Or.inl ⟨by rfl, fun v hv => by go_simp⟩) hI7 ?_
  have hL := HF.out.1
  have hh1 : 1 ≤ h := by
    have := HF.out
    have := next_gt S.g S.t
    rw [HH.out] at this
    omega
  have hml : l.length ≤ roomN S.ss := by rw [HR'.out, hll.out]; omega
  have hsm := longs_all B3.out
  have HT := Lib.hid (turned_any oa n cap S.ss h ol nl cl l wd hlen.out hL hh1 (by omega) (HAA.out.below (gI2.out _ hI7).below) hml hsm)
  have HPM := Lib.hid (pages_mem hL hh1 (by omega : h ≤ 250) hml hsm)
  have HFS := Lib.hid (faults_all B2.out)
  have HLg := Lib.hid hL
  clear hL hh1 hml hsm
  refine wpT_ready (rs := [5]) (by kernel_rfl) (by simp) ?_
  refine AllT.cons rfl (fun K hK => ?_) AllT.nil
  go_simp
  refine HT.out.mono ?_
  rintro e w7 ⟨⟨op, m7, rfl, hP7⟩, hB7⟩
  have hI8 := st2.out _ _ hI7 hB7
  refine hK _ _ (fun _ => hI8) ?_
  clear hK K hB7 hI7 HT
  have J8 := gI2.out _ hI8
  have HWR := Lib.hid (written_any oa n cap S.ss S.g S.u h false op (nl + 1) m7 (pagesG S.ss h l) of nf cf fs w7 J8.var.rd HLg.out hP7 (by omega) HPM.out (HFA.out.below J8.below (Nat.le_refl _)) hnf HFS.out)
  rw [← HTM.out] at HWR
  generalize hM : turnM S l fs = M at *
  have HM := Lib.hid hM
  have HJ8 := Lib.hid J8
  clear hM J8 hP7
  refine wpT_ready (rs := [7]) (by kernel_rfl) (by simp) ?_
  refine AllT.cons rfl (fun K hK => ?_) AllT.nil
  go_simp
  refine HWR.out.mono ?_
  rintro e w8 ⟨⟨ob, m8, rfl, hR8⟩, hB8⟩
  have J9 := gI2.out _ (st2.out _ _ hI8 hB8)
  refine hK _ _ (fun h => absurd h (by decide)) ?_
  clear hK K hB8 HWR HJ8 hI8
  refine wpT_behind (by kernel_rfl) ?_
  refine wpAny_take (i := 8) (v := .tuple #[.agg #[.slice ob n m8, .int .i64 S.g, .int .i64 S.u, .int .i64 h, .bool M.2.1], .int .i64 M.2.2]) rfl (by kernel_rfl) (by kernel_rfl) (by kernel_rfl) (fun _ _ _ h => h) (Or.inl ⟨by rfl, fun v => by go_simp⟩) ?_
  refine wpAny_take (i := 9) (v := .agg #[.slice ob n m8, .int .i64 S.g, .int .i64 S.u, .int .i64 h, .bool M.2.1]) rfl (by kernel_rfl) (by kernel_rfl) (by kernel_rfl) (fun _ _ _ h => h) (Or.inl ⟨by rfl, fun v => by go_simp⟩) ?_
  refine wpAny_take (i := 10) (v := .int .i64 M.2.2) rfl (by kernel_rfl) (by kernel_rfl) (by kernel_rfl) (fun _ _ _ h => h) (Or.inl ⟨by rfl, fun v => by go_simp⟩) ?_
  refine wpAny_ready (rs := [11]) (by kernel_rfl) (by simp) ?_
  refine AllReady.cons (o := ⟨none, .store 26 (.tmp 3) (.tmp 51), 0, _, _, none⟩) rfl (fun K hK => ?_) AllReady.nil
  rw [if_pos (show Region.wanted _ _ = true from rfl)]
  refine wp_store5 rfl rfl J9.var.row ?_
  obtain ⟨W9, hW9⟩ : ∃ W9, W9 = put5 w8 w.heap.size (.slice ob n m8) S.g S.u h M.2.1 := ⟨_, rfl⟩
  have V9 : SVar W9 w.heap.size ob n m8 ⟨M.1, S.g, S.u, h, M.2.1⟩ := hW9 ▸ J9.var.put hR8 _ _ _ _
  have R9 : SRow W9 (w.heap.size + 1) (.slice none 0 0) 0 0 0 false := hW9 ▸ J9.res.aside (by omega) _ _ _ _ _
  have B9 : Below w.heap.size w W9 := hW9 ▸ put_below J9.below (Nat.le_refl _) _ _ _ _ _
  rw [← hW9]
  refine hK _ _ ?_
  clear hK K hW9 J9 hR8
  refine wpAny_ready (rs := [12]) (by kernel_rfl) (by simp) ?_
  refine AllReady.cons rfl (fun K hK => ?_) AllReady.nil
  go_simp
  refine hK _ _ ?_
  clear hK K
  refine wpAny_done (by kernel_rfl) ?_ _
  obtain ⟨v0, v1, v2, v3, v4⟩ := V9.cells
  dsimp only at v1 v2 v3 v4
  obtain ⟨p0, p1, p2, p3, p4⟩ := R9.cells
  have pf := R9.free
  have vf := V9.row.free
  by_cases hz : M.2.2 = 0
  · have HE3 : Hid (turnS S l fs = ⟨M.1, h, (nl : Int), h, M.2.1⟩ ∧ turnW S l fs = 0) := by
      show _ ∧ _
      rw [HE2.out.1, HE2.out.2, hz, if_pos rfl, if_pos rfl]
      exact ⟨rfl, rfl⟩
    rw [hz]
    have HZ := Lib.hid hz
    clear hz
    have V10 := (V9.set1 h).set2 (nl : Int)
    have R10 := (R9.far (A := w.heap.size) (by omega) 1 (.int .i64 h)).far (A := w.heap.size) (by omega) 2 (.int .i64 (nl : Int))
    have B10 := (B9.setCell (p := ⟨w.heap.size, 1, none⟩) (Nat.le_refl _) (.int .i64 h)).setCell (p := ⟨w.heap.size, 2, none⟩) (Nat.le_refl _) (.int .i64 (nl : Int))
    obtain ⟨q0, q1, q2, q3, q4⟩ := V10.cells
    dsimp only at q1 q2 q3 q4
    obtain ⟨r0, r1, r2, r3, r4⟩ := R10.cells
    have rf := R10.free
    go_wp2_with fail
    refine tell_at HE3.out.1.symm HE3.out.2.symm ?_
    exact end_store rfl rfl rfl R10 ⟨_, _, _, rfl⟩ V10.rd B10 hw0
  · have HE3 : Hid (turnS S l fs = ⟨M.1, S.g, S.u, h, M.2.1⟩ ∧ turnW S l fs = M.2.2) := by
      show _ ∧ _
      rw [HE2.out.1, HE2.out.2, if_neg hz, if_neg hz]
      exact ⟨rfl, rfl⟩
    have hz' : (M.2.2 == 0) = false := by rw [beq_eq_false_iff_ne]; exact hz
    clear hz
    go_wp2_with fail
    refine tell_at HE3.out.1.symm HE3.out.2.symm ?_
    exact end_store rfl rfl rfl R9 ⟨_, _, _, rfl⟩ V9.rd B9 hw0
end Go.Proofs.Ytmjbhmmcpjhmcaa
