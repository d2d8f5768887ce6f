/-
  The program's own: a message's text.
-/
import Derived.Test.YthncfcjkpcjkiaaGreatDoorWirY
namespace Go.Proofs.YthncfcjkpcjkiaaGreatDoor
open Go.RowKit Go.Shelf
set_option linter.unusedVariables false

theorem getD_mem_L {l : List L2} {k : Nat} (hk : k < l.length) : l.getD k zL ∈ l := by
  rw [getD_L l k hk]
  exact List.getElem_mem _
theorem getD_mem_M {l : List M3} {k : Nat} (hk : k < l.length) : l.getD k zM ∈ l := by
  rw [getD_M l k hk]
  exact List.getElem_mem _
theorem right_short {l : List L2} (h : rightB l = true) : l.length ≤ 3 ∧ Short12 l ∧ ∀ v ∈ l.map labW, v.length ≤ 100 := by
  obtain ⟨h3, hl⟩ := right_parts h
  refine ⟨h3, fun k hk => ?_, fun v hv => ?_⟩
  · obtain ⟨h1, h2⟩ := hl _ (getD_mem_L hk)
    have z1 := name_size h1
    have z2 := value_size h2
    rw [Array.length_toList] at z1 z2
    exact ⟨Nat.le_trans z1 (by omega), Nat.le_trans z2 (by omega)⟩
  · obtain ⟨x, hx, rfl⟩ := List.mem_map.1 hv
    have := (lab_plain (hl x hx).1 (hl x hx).2).2
    omega
theorem hush_short {f t : Int} {ms : List M3} (h : hushR f t ms = true) : timeB f = true ∧ timeB t = true ∧ ms.length ≤ 4 ∧ Short12M ms ∧ ∀ v ∈ digsB f.toNat :: digsB t.toNat :: ms.map askB, v.length ≤ 100 := by
  unfold hushR at h
  simp only [Bool.and_eq_true, decide_eq_true_eq, Bool.not_eq_true'] at h
  obtain ⟨⟨⟨⟨hf, ht⟩, hft⟩, hm1⟩, hm4, hany⟩ := h
  have hmat : ∀ m ∈ ms, matB m = true := fun m hm => by
    cases hb : matB m with
    | true => rfl
    | false => rw [List.any_eq_true.2 ⟨m, hm, by rw [hb]; rfl⟩] at hany; cases hany
  have hd : ∀ n : Int, timeB n = true → (digsB n.toNat).length ≤ 100 := fun n hn => by
    unfold timeB at hn
    simp at hn
    have := digsB_length 12 n.toNat (by omega)
    omega
  refine ⟨hf, ht, hm4, fun k hk => ?_, fun v hv => ?_⟩
  · obtain ⟨h0, h1, h2⟩ := mat_parts (hmat _ (getD_mem_M hk))
    have z1 := name_size h1
    have z2 := value_size h2
    rw [Array.length_toList] at z1 z2
    exact ⟨h0, Nat.le_trans z1 (by omega), Nat.le_trans z2 (by omega)⟩
  · rcases List.mem_cons.1 hv with rfl | hv
    · exact hd f hf
    rcases List.mem_cons.1 hv with rfl | hv
    · exact hd t ht
    obtain ⟨x, hx, rfl⟩ := List.mem_map.1 hv
    have := (ask_plain (hmat x hx)).2
    omega
theorem msgR_parts {q f t : Int} {l : List L2} {ms : List M3} (h : msgR (q, l, f, t, ms) = true) : (q = 2 ∧ hushR f t ms = true) ∨ ((q = 0 ∨ q = 1) ∧ rightB l = true) := by
  by_cases hq : q = 2
  · subst hq
    rw [msgR_hush] at h
    simp only [Bool.and_eq_true] at h
    exact .inl ⟨rfl, h.2⟩
  · rw [msgR_alert q hq] at h
    simp only [Bool.and_eq_true, Bool.or_eq_true, decide_eq_true_eq] at h
    exact .inr ⟨h.1, h.2.1⟩
set_option maxRecDepth 100000 in
set_option maxHeartbeats 6400000 in
theorem print_any (q f t : Int) (oa : Option Addr) (n cap : Nat) (ob : Option Addr) (nb cb : Nat) (l : List L2) (ms : List M3) (w : World) (hL : Ls w oa n cap l) (h : Ms w ob nb cb ms) (hn : n ≤ 1000) (hnb : nb ≤ 1000) (hT : Tabs w) :
    Calls Tryz.prog 15 #[.agg (msgC q (.slice oa n cap) f t (.slice ob nb cb))] w fun e w' => e = .returned (if msgR (q, l, f, t, ms) = true then .tuple #[.string (tx (printB (q, l, f, t, ms))), .int .i64 0] else .tuple #[.string ⟨#[]⟩, .int .i64 1]) ∧ Below w.heap.size w w' := by
  have V0 := Vals.new w 27 (msgC q (.slice oa n cap) f t (.slice ob nb cb))
  have B0 := below_alloc w (.cells (msgC q (.slice oa n cap) f t (.slice ob nb cb)) 27)
  have HR := msg_right q f t oa n cap ob nb cb l ms _ (hL.below B0 (Nat.le_refl _)) (h.below B0 (Nat.le_refl _)) (by omega) (by omega)
  have hl := hL.len
  have hlm := h.len
  cases hb : msgR (q, l, f, t, ms) with
  | false =>
    rw [hb] at HR
    clear hb hL h hT hl hlm
    go_enter Tryz.func15, Tryz.ntmps15
    go_upto_region 1 with fail
    generalize w.alloc (.cells (msgC q (.slice oa n cap) f t (.slice ob nb cb)) 27) = w1 at *
    have c0 : w1.cell? ⟨w.heap.size, 0, none⟩ = some (.int .i64 q) := V0.cell 0
    have c1 : w1.cell? ⟨w.heap.size, 1, none⟩ = some (.slice oa n cap) := V0.cell 1
    have c2 : w1.cell? ⟨w.heap.size, 2, none⟩ = some (.int .i64 f) := V0.cell 2
    have c3 : w1.cell? ⟨w.heap.size, 3, none⟩ = some (.int .i64 t) := V0.cell 3
    have c4 : w1.cell? ⟨w.heap.size, 4, none⟩ = some (.slice ob nb cb) := V0.cell 4
    go_wp2_with fail
    refine HR.mono ?_
    rintro e w2 ⟨rfl, B2⟩
    go_wp2_with fail
    go_ret2
    exact ⟨rfl, B0.trans (B2.mono B0.size)⟩
  | true =>
    rw [hb] at HR
    rcases msgR_parts hb with ⟨rfl, hh⟩ | ⟨hq, hr⟩
    · obtain ⟨hf, ht, hm4, hS, hZ⟩ := hush_short hh
      have HP : Hid (printB (2, l, f, t, ms) = joinB (hushT :: digsB f.toNat :: digsB t.toNat :: ms.map askB)) := by show _ = _; unfold printB printW; rw [if_pos rfl]
      have HW := fun w2 (B : Below w.heap.size w w2) => words_hush_any f t hf ht ob nb cb ms w2 (h.below B (Nat.le_refl _)) (by omega) hS (hT.below B (Nat.le_refl _))
      have HU := fun (oc : Option Addr) (m c : Nat) (w3 : World) (hW : Ts w3 oc m c ((digsB f.toNat :: digsB t.toNat :: ms.map askB).map tx)) => print_words hushT (digsB f.toNat :: digsB t.toNat :: ms.map askB) oc m c w3 hW (by have := hW.len; simp at this; omega) hZ (by decide)
      clear hb hh hL h hT hl hlm hS hZ hf ht
      rw [if_pos rfl, HP.out]
      clear HP
      generalize digsB f.toNat :: digsB t.toNat :: ms.map askB = ws at *
      have hs : tx hushT = ⟨#[104, 117, 115, 104]⟩ := rfl
      rw [hs] at HU
      go_enter Tryz.func15, Tryz.ntmps15
      go_upto_region 1 with fail
      generalize w.alloc (.cells (msgC 2 (.slice oa n cap) f t (.slice ob nb cb)) 27) = w1 at *
      have c0 : w1.cell? ⟨w.heap.size, 0, none⟩ = some (.int .i64 2) := V0.cell 0
      have c1 : w1.cell? ⟨w.heap.size, 1, none⟩ = some (.slice oa n cap) := V0.cell 1
      have c2 : w1.cell? ⟨w.heap.size, 2, none⟩ = some (.int .i64 f) := V0.cell 2
      have c3 : w1.cell? ⟨w.heap.size, 3, none⟩ = some (.int .i64 t) := V0.cell 3
      have c4 : w1.cell? ⟨w.heap.size, 4, none⟩ = some (.slice ob nb cb) := V0.cell 4
      go_wp2_with fail
      refine HR.mono ?_
      rintro e w2 ⟨rfl, B2⟩
      have V2 := V0.keep B2 (Nat.le_refl _)
      have d0 : w2.cell? ⟨w.heap.size, 0, none⟩ = some (.int .i64 2) := V2.cell 0
      have d2 : w2.cell? ⟨w.heap.size, 2, none⟩ = some (.int .i64 f) := V2.cell 2
      have d3 : w2.cell? ⟨w.heap.size, 3, none⟩ = some (.int .i64 t) := V2.cell 3
      have d4 : w2.cell? ⟨w.heap.size, 4, none⟩ = some (.slice ob nb cb) := V2.cell 4
      have B3 := B0.trans (B2.mono B0.size)
      have HW2 := HW _ B3
      clear c0 c1 c2 c3 c4 V0 V2 B0 B2 HW HR
      go_wp2_with fail
      refine HW2.mono ?_
      rintro e w4 ⟨⟨oc, m, c, rfl, hW⟩, B4⟩
      have HV := HU _ _ _ _ hW
      have B5 := B3.trans (B4.mono B3.size)
      clear HW2 hW B3 B4 HU
      go_wp2_with fail
      refine HV.mono ?_
      rintro e w6 ⟨rfl, B6⟩
      go_wp2_with fail
      go_ret2
      exact ⟨rfl, B5.trans (B6.mono B5.size)⟩
    · obtain ⟨h3, hS, hZ⟩ := right_short hr
      have hq2 : q ≠ 2 := by omega
      have HP : Hid (printB (q, l, f, t, ms) = joinB ((if q = 1 then doneT else fireT) :: l.map labW)) := by show _ = _; unfold printB printW; rw [if_neg hq2]
      have HW := fun w2 (B : Below w.heap.size w w2) => words_labels oa n cap l w2 (hL.below B (Nat.le_refl _)) (by omega) hS
      have HU := fun (hd : List UInt8) (hz : hd.length ≤ 100) (oc : Option Addr) (m c : Nat) (w3 : World) (hW : Ts w3 oc m c ((l.map labW).map tx)) => print_words hd (l.map labW) oc m c w3 hW (by have := hW.len; simp at this; omega) hZ hz
      clear hb hr hL h hT hl hlm hS hZ hq2
      rw [if_pos rfl, HP.out]
      clear HP
      generalize l.map labW = ws at *
      have hs0 : tx fireT = ⟨#[102, 105, 114, 101]⟩ := rfl
      have hs1 : tx doneT = ⟨#[100, 111, 110, 101]⟩ := rfl
      have HF := HU fireT (by decide)
      have HD := HU doneT (by decide)
      rw [hs0] at HF
      rw [hs1] at HD
      clear HU hs0 hs1
      rcases hq with rfl | rfl
      · rw [if_neg (by decide)]
        clear HD
        go_enter Tryz.func15, Tryz.ntmps15
        go_upto_region 1 with fail
        generalize w.alloc (.cells (msgC 0 (.slice oa n cap) f t (.slice ob nb cb)) 27) = w1 at *
        have c0 : w1.cell? ⟨w.heap.size, 0, none⟩ = some (.int .i64 0) := V0.cell 0
        have c1 : w1.cell? ⟨w.heap.size, 1, none⟩ = some (.slice oa n cap) := V0.cell 1
        have c2 : w1.cell? ⟨w.heap.size, 2, none⟩ = some (.int .i64 f) := V0.cell 2
        have c3 : w1.cell? ⟨w.heap.size, 3, none⟩ = some (.int .i64 t) := V0.cell 3
        have c4 : w1.cell? ⟨w.heap.size, 4, none⟩ = some (.slice ob nb cb) := V0.cell 4
        go_wp2_with fail
        refine HR.mono ?_
        rintro e w2 ⟨rfl, B2⟩
        have V2 := V0.keep B2 (Nat.le_refl _)
        have d0 : w2.cell? ⟨w.heap.size, 0, none⟩ = some (.int .i64 0) := V2.cell 0
        have d1 : w2.cell? ⟨w.heap.size, 1, none⟩ = some (.slice oa n cap) := V2.cell 1
        have B3 := B0.trans (B2.mono B0.size)
        have HW2 := HW _ B3
        clear c0 c1 c2 c3 c4 V0 V2 B0 B2 HW HR
        go_wp2_with fail
        refine HW2.mono ?_
        rintro e w4 ⟨⟨oc, m, c, rfl, hW⟩, B4⟩
        have HV := HF _ _ _ _ hW
        have B5 := B3.trans (B4.mono B3.size)
        clear HW2 hW B3 B4 HF
        go_wp2_with fail
        refine HV.mono ?_
        rintro e w6 ⟨rfl, B6⟩
        go_wp2_with fail
        go_ret2
        exact ⟨rfl, B5.trans (B6.mono B5.size)⟩
      · rw [if_pos rfl]
        clear HF
        go_enter Tryz.func15, Tryz.ntmps15
        go_upto_region 1 with fail
        generalize w.alloc (.cells (msgC 1 (.slice oa n cap) f t (.slice ob nb cb)) 27) = w1 at *
        have c0 : w1.cell? ⟨w.heap.size, 0, none⟩ = some (.int .i64 1) := V0.cell 0
        have c1 : w1.cell? ⟨w.heap.size, 1, none⟩ = some (.slice oa n cap) := V0.cell 1
        have c2 : w1.cell? ⟨w.heap.size, 2, none⟩ = some (.int .i64 f) := V0.cell 2
        have c3 : w1.cell? ⟨w.heap.size, 3, none⟩ = some (.int .i64 t) := V0.cell 3
        have c4 : w1.cell? ⟨w.heap.size, 4, none⟩ = some (.slice ob nb cb) := V0.cell 4
        go_wp2_with fail
        refine HR.mono ?_
        rintro e w2 ⟨rfl, B2⟩
        have V2 := V0.keep B2 (Nat.le_refl _)
        have d0 : w2.cell? ⟨w.heap.size, 0, none⟩ = some (.int .i64 1) := V2.cell 0
        have d1 : w2.cell? ⟨w.heap.size, 1, none⟩ = some (.slice oa n cap) := V2.cell 1
        have B3 := B0.trans (B2.mono B0.size)
        have HW2 := HW _ B3
        clear c0 c1 c2 c3 c4 V0 V2 B0 B2 HW HR
        go_wp2_with fail
        refine HW2.mono ?_
        rintro e w4 ⟨⟨oc, m, c, rfl, hW⟩, B4⟩
        have HV := HD _ _ _ _ hW
        have B5 := B3.trans (B4.mono B3.size)
        clear HW2 hW B3 B4 HD
        go_wp2_with fail
        refine HV.mono ?_
        rintro e w6 ⟨rfl, B6⟩
        go_wp2_with fail
        go_ret2
        exact ⟨rfl, B5.trans (B6.mono B5.size)⟩
end Go.Proofs.YthncfcjkpcjkiaaGreatDoor
