/-
  The document's own: a route's line.
-/
import Derived.Test.YtbihaoibmkdfjaaGreatDoorRfcG
import Derived.Test.YtbihaoibmkdfjaaGreatDoorWirD
namespace Go.Proofs.YtbihaoibmkdfjaaGreatDoor
open Go.RowKit Go.Shelf
set_option linter.unusedVariables false

theorem ifW_none : ∀ (l acc : List (List UInt8)), (∀ i, i < l.length → l.getD i [] ≠ ifT) → ifW acc l = none
  | [], acc, _ => rfl
  | v :: l, acc, h => by
    have h0 : v ≠ ifT := h 0 (by simp)
    rw [ifW, if_neg h0]
    exact ifW_none l _ fun i hi => h (i + 1) (by simpa using hi)
theorem ifW_at : ∀ (l acc : List (List UInt8)) (j : Nat), j < l.length → (∀ i, i < j → l.getD i [] ≠ ifT) → l.getD j [] = ifT → ifW acc l = some (acc ++ l.take j, l.drop (j + 1))
  | [], acc, j, hj, _, _ => absurd hj (by simp)
  | v :: l, acc, 0, hj, h, he => by
    have h0 : v = ifT := he
    rw [ifW, if_pos h0]
    simp
  | v :: l, acc, j + 1, hj, h, he => by
    have h0 : v ≠ ifT := h 0 (by omega)
    rw [ifW, if_neg h0, ifW_at l _ j (by simpa using hj) (fun i hi => h (i + 1) (by omega)) he]
    simp
theorem getD_drop1 (ws : List (List UInt8)) (i : Nat) : (ws.drop 1).getD i [] = ws.getD (i + 1) [] := by
  rw [List.getD_eq_getElem?_getD, List.getD_eq_getElem?_getD, List.getElem?_drop, Nat.add_comm]
theorem place_val {l : List R9} {v : List UInt8} (h : 0 ≤ placeN l (tx v)) : placeO l v = some (placeN l (tx v)) := by
  unfold placeN placeO at *
  cases e : l.findIdx? fun r => decide (r.nm = tx v) with
  | none => rw [e] at h; simp at h
  | some k => rfl
theorem place_no {l : List R9} {v : List UInt8} (h : ¬ 0 ≤ placeN l (tx v)) : placeO l v = none := by
  cases e : placeO l v with
  | none => rfl
  | some k => exact absurd ((place_some l v).1 (by rw [e]; rfl)) h
theorem rteE_none {c : CfgL} {names asks : List (List UInt8)} (h : allO (placeO c.1) names = none) : rteE c names asks = .error 4 := by unfold rteE; rw [h]
theorem rteE_char {c : CfgL} {names asks : List (List UInt8)} {ch : List Int} (h : allO (placeO c.1) names = some ch) (h2 : allO askedB asks = none) : rteE c names asks = .error 13 := by unfold rteE; rw [h]; simp only; rw [h2]
theorem rteE_end {c : CfgL} {names asks : List (List UInt8)} {ch : List Int} {ms : List M3} (h : allO (placeO c.1) names = some ch) (h2 : allO askedB asks = some ms) : rteE c names asks = if rteR c.1.length (ch, ms) = true then .ok (c.1, c.2.1 ++ [(ch, ms)], c.2.2) else .error 3 := by unfold rteE; rw [h]; simp only; rw [h2]
theorem names_at (ws : List (List UInt8)) (k j : Nat) (hj : j + 1 < k) (hk : k ≤ ws.length) : ((ws.take k).drop 1).getD j [] = ws.getD (j + 1) [] := by
  rw [getD_drop1, List.getD_eq_getElem?_getD, List.getD_eq_getElem?_getD, List.getElem?_take_of_lt hj]
theorem own_weaken {w : World} {base B : Nat} {e : TypeId} {size : Nat} {v : Value} {n : Nat} {xs : List Value} (h : w.ownsRow B e size v n xs) (hB : base ≤ B) : w.ownsRow base e size v n xs := by
  refine ⟨h.1, ?_⟩
  rcases h.2 with h2 | ⟨g, cap, cur, h3, h4, h5⟩
  · exact .inl h2
  · exact .inr ⟨g, cap, cur, h3, by omega, h5⟩
theorem Own2.setT {w : World} {base : Nat} {v : Value} {l : List T2} {qs : List (Value × Value)} (h : Own2 w base v l qs) {A : Nat} {cs : Array Value} (hV : Vals w A 25 cs) (i : Nat) (u : Value) : Own2 (w.setCell ⟨A, i, none⟩ u) base v l qs :=
  ⟨own_setT h.own hV (by decide) i u, h.len, fun j hj => ⟨own_setT (h.part j hj).1 hV (by decide) i u, own_setT (h.part j hj).2 hV (by decide) i u⟩⟩
theorem Own2.four {w : World} {base : Nat} {v : Value} {l : List T2} {qs : List (Value × Value)} (h : Own2 w base v l qs) {A : Nat} {x0 x1 x2 x3 : Value} (hV : Vals w A 25 #[x0, x1, x2, x3]) (y0 y1 y2 y3 : Value) : Own2 ((((w.setCell ⟨A, 0, none⟩ y0).setCell ⟨A, 1, none⟩ y1).setCell ⟨A, 2, none⟩ y2).setCell ⟨A, 3, none⟩ y3) base v l qs :=
  ⟨own_four h.own hV (by decide) y0 y1 y2 y3, h.len, fun j hj => ⟨own_four (h.part j hj).1 hV (by decide) y0 y1 y2 y3, own_four (h.part j hj).2 hV (by decide) y0 y1 y2 y3⟩⟩
theorem shortM_of {l : List (List UInt8)} {ms : List M3} (h : allO askedB l = some ms) : ShortM ms := by
  intro k hk
  have hm := (allO_some (P := fun m => matB m = true) (fun a b h => askedB_some h) l ms h).1 (ms.getD k zM) (by rw [getD_M ms k hk]; exact List.getElem_mem _)
  obtain ⟨_, h1, h2⟩ := mat_parts hm
  have e1 := name_size h1
  have e2 := value_size h2
  rw [Array.length_toList] at e1 e2
  have f1 : (ms.getD k zM).2.1.size = (ms.getD k zM).2.1.data.size := rfl
  have f2 : (ms.getD k zM).2.2.size = (ms.getD k zM).2.2.data.size := rfl
  omega
theorem wrap_succ (k : Nat) (h : k ≤ 1000000) : wrap64 ((k : Int) + 1) = ((k + 1 : Nat) : Int) := by unfold wrap64; omega
/-- what is told of a route's line -/
def AddTOut (w w' : World) (base : Nat) (e : Ending) (c : CfgL) (va vb : Value) (rep beat : Int) (ws : List (List UInt8)) : Prop := ∃ (vb' : Value) (er : Int), e = .returned (.tuple #[.agg (cfgV va vb' rep beat), .int .i64 er]) ∧
  ((er = 0 ∧ ∃ t qs', addT c ws = .ok (c.1, c.2.1 ++ [t], c.2.2) ∧ Own2 w' base vb' (c.2.1 ++ [t]) qs') ∨ (er ≠ 0 ∧ addT c ws = .error er ∧ vb' = vb))
theorem addT_full {c : CfgL} {ws : List (List UInt8)} (h : c.2.1.length = 4) : addT c ws = .error 2 := by unfold addT; rw [if_pos h]
theorem addT_lack {c : CfgL} {ws : List (List UInt8)} (h : c.2.1.length ≠ 4) (hA : ∀ i, 1 ≤ i → i < ws.length → ws.getD i [] ≠ ifT) : addT c ws = .error 12 := by
  unfold addT
  rw [if_neg h, ifW_none _ _ fun i hi => by rw [getD_drop1]; exact hA (i + 1) (by omega) (by rw [List.length_drop] at hi; omega)]
theorem addT_at {c : CfgL} {ws : List (List UInt8)} (h : c.2.1.length ≠ 4) (k : Nat) (h1 : 1 ≤ k) (hk : k < ws.length) (hA : ∀ i, 1 ≤ i → i < k → ws.getD i [] ≠ ifT) (he : ws.getD k [] = ifT) : addT c ws = rteE c ((ws.take k).drop 1) (ws.drop (k + 1)) := by
  unfold addT
  rw [if_neg h, ifW_at (ws.drop 1) [] (k - 1) (by rw [List.length_drop]; omega) (fun i hi => by rw [getD_drop1]; exact hA (i + 1) (by omega) (by omega)) (by rw [getD_drop1, show k - 1 + 1 = k by omega]; exact he)]
  simp only [List.nil_append]
  rw [List.drop_drop, show 1 + (k - 1 + 1) = k + 1 by omega, List.drop_take]
set_option maxRecDepth 100000 in
set_option maxHeartbeats 12800000 in
theorem refAddT_any (c : CfgL) (qs : List (Value × Value)) (oz : Option Addr) (m cz : Nat) (vb : Value) (rep beat : Int) (ws : List (List UInt8)) (oa : Option Addr) (n cap : Nat) (base : Nat) (w : World)
    (hRs : Rs w oz m cz c.1) (hm5 : m ≤ 100000) (hO : Own2 w base vb c.2.1 qs) (hlen : c.2.1.length ≤ 4) (h : Ts w oa n cap (ws.map tx)) (hn : n ≤ 100000) (hz : ∀ v ∈ ws, v.length ≤ 100000) (hbase : base ≤ w.heap.size) :
    Calls Tryz.prog 42 #[.agg (cfgV (.slice oz m cz) vb rep beat), .slice oa n cap] w fun e w' => AddTOut w w' base e c (.slice oz m cz) vb rep beat ws ∧ w.grownBy w' vb.ownBlock := by
  have hl : ws.length = n := by rw [← h.len, List.length_map]
  have hr := h.room
  obtain ⟨ob, cb, rfl, hQs, _⟩ := hO.lies
  obtain ⟨nb, hnb⟩ : ∃ nb, c.2.1.length = nb := ⟨_, rfl⟩
  have hrl := hRs.len
  unfold AddTOut
  have HO := Lib.hid hO
  clear hO
  rw [hnb] at hlen hQs HO
  rw [hnb]
  have V0 := (Vals.new w 25 (cfgV (.slice oz m cz) (.slice ob nb cb) rep beat)).alloc (.cells (cfgV (.slice none 0 0) (.slice none 0 0) 0 0) 25)
  have V1 := Vals.new (w.alloc (.cells (cfgV (.slice oz m cz) (.slice ob nb cb) rep beat) 25)) 25 (cfgV (.slice none 0 0) (.slice none 0 0) 0 0)
  have B1 := Below.of_alloc2 (w := w) (.cells (cfgV (.slice oz m cz) (.slice ob nb cb) rep beat) 25) (.cells (cfgV (.slice none 0 0) (.slice none 0 0) 0 0) 25)
  have hsz : (w.alloc (.cells (cfgV (.slice oz m cz) (.slice ob nb cb) rep beat) 25)).heap.size = w.heap.size + 1 := by simp
  rw [hsz] at V1
  obtain ⟨A, hA⟩ : ∃ A, A = w.heap.size := ⟨_, rfl⟩
  obtain ⟨A1, hA1⟩ : ∃ A1, A1 = w.heap.size + 1 := ⟨_, rfl⟩
  go_enter Tryz.func42, Tryz.ntmps42
  go_upto_region 1 with fail
  rw [← hA1]
  rw [← hA1] at V1
  have hA1w : w.heap.size ≤ A1 := by omega
  have hAw : w.heap.size ≤ A := by omega
  have hAA : A ≠ A1 := by omega
  rw [← hA] at V0 ⊢
  clear hA hA1 hsz hQs
  generalize (w.alloc (.cells (cfgV (.slice oz m cz) (.slice ob nb cb) rep beat) 25)).alloc (.cells (cfgV (.slice none 0 0) (.slice none 0 0) 0 0) 25) = w1 at *
  have p0 : w1.cell? ⟨A, 0, none⟩ = some (.slice oz m cz) := V0.cell 0
  have p1 : w1.cell? ⟨A, 1, none⟩ = some (.slice ob nb cb) := V0.cell 1
  have p2 : w1.cell? ⟨A, 2, none⟩ = some (.int .i64 rep) := V0.cell 2
  have p3 : w1.cell? ⟨A, 3, none⟩ = some (.int .i64 beat) := V0.cell 3
  have q0 : w1.cell? ⟨A1, 0, none⟩ = some (.slice none 0 0) := V1.cell 0
  have q1 : w1.cell? ⟨A1, 1, none⟩ = some (.slice none 0 0) := V1.cell 1
  have q2 : w1.cell? ⟨A1, 2, none⟩ = some (.int .i64 0) := V1.cell 2
  have q3 : w1.cell? ⟨A1, 3, none⟩ = some (.int .i64 0) := V1.cell 3
  have g0 := V1.free 0
  have g1 := V1.free 1
  have g2 := V1.free 2
  have g3 := V1.free 3
  have HZ := Lib.hid hz
  clear hz
  by_cases h4 : nb = 4
  · have HW := Lib.hid (addT_full (ws := ws) (hnb.trans h4))
    have h4i : ((nb : Int) == 4) = true := by simp [h4]
    have hV5 := V1.four (.slice oz m cz) (.slice ob nb cb) (.int .i64 rep) (.int .i64 beat)
    have hB5 := below_four B1 hA1w (.slice oz m cz) (.slice ob nb cb) (.int .i64 rep) (.int .i64 beat)
    clear h HZ hRs hl V0 V1 B1 h4 HO hnb hrl
    go_wp2_with fail
    refine bodyPost_ret (retC rfl rfl rfl hV5) rfl ?_
    exact ⟨⟨.slice ob nb cb, 2, rfl, .inr ⟨by decide, HW.out, rfl⟩⟩, grown_all hB5 _⟩
  have h4i : ((nb : Int) == 4) = false := by simp; omega
  have hn4 : c.2.1.length ≠ 4 := by omega
  have hT1 := h.below B1 (Nat.le_refl _)
  have hR1 := hRs.below B1 (Nat.le_refl _)
  clear h hRs h4
  go_wp2_with fail
  go_loopw [6] (fun s6 wr => ∃ k : Nat, 1 ≤ k ∧ (k ≤ n ∨ k = 1) ∧ s6 = .int .i64 k ∧ w1 = wr ∧ Hid (∀ i, 1 ≤ i → i < k → ws.getD i [] ≠ ifT)) (fun s6 _ => n + 1 - (intOf s6).toNat)
  case atStart => exact ⟨1, Nat.le_refl _, .inr rfl, rfl, rfl, fun i h1 h2 => absurd h2 (by omega)⟩
  case round =>
    obtain ⟨k, hk1, hkn, rfl, rfl, HA⟩ := hrel
    by_cases hlt : k < n
    · obtain ⟨g, o, rfl, c0⟩ := hT1.cell k hlt
      rw [ws_at ws k (by omega)] at c0
      obtain ⟨b, hb⟩ : ∃ b : Bool, b = true ↔ ws.getD k [] = ifT := ⟨decide (ws.getD k [] = ifT), by simp⟩
      have t1 : ((tx (ws.getD k [])).toList == [105, 102]) = b := by have h := tx_beq (ws.getD k []) ifT b hb; rw [tx_list ifT] at h; exact h
      have Hb := Lib.hid hb
      have HN : Hid (ws.getD k [] ≠ ifT → ∀ i, 1 ≤ i → i < k + 1 → ws.getD i [] ≠ ifT) := fun e i h1 h2 => by
        by_cases e2 : i = k
        · subst e2; exact e
        · exact HA.out i h1 (by omega)
      have HE : Hid (ws.getD k [] = ifT → addT c ws = rteE c ((ws.take k).drop 1) (ws.drop (k + 1))) := fun e => addT_at hn4 k hk1 (by omega) HA.out e
      clear hb HA
      generalize tx (ws.getD k []) = y at *
      cases b with
      | false =>
        have HX := Lib.hid (HN.out (fun e => absurd (Hb.out.2 e) (by simp)))
        clear HN HE Hb
        go_wp2_with fail
        go_roundw
        case rel => exact ⟨k + 1, by omega, by omega, by go_num, trivial, HX⟩
        case measure => simp [intOf]; omega
      | true =>
        have HX := Lib.hid (HE.out (Hb.out.1 rfl))
        clear HN HE Hb
        have hsp : (n : Int) ≤ (cap : Int) := by omega
        have hge : ¬ (n : Int) ≤ (k : Int) := by omega
        have hkn2 : (k : Int) ≤ (n : Int) := by omega
        go_upto_region 9 with fail
        clear c0 t1
        obtain ⟨D, hD⟩ : ∃ D, D = w1.heap.size := ⟨_, rfl⟩
        have VD := Vals.new w1 56 #[.slice none 0 0, .slice none 0 0]
        have Ba := below_alloc w1 (.cells #[.slice none 0 0, .slice none 0 0] 56)
        have hzD : (w1.alloc (.cells #[.slice none 0 0, .slice none 0 0] 56)).heap.size = D + 1 := by rw [hD]; simp
        rw [← hD] at VD Ba ⊢
        have hbD : base ≤ D := by have := B1.size; omega
        have hAD : A < D := by rw [hD]; exact V0.lt
        have hA1D : A1 < D := by rw [hD]; exact V1.lt
        have HDs := Lib.hid hD
        have hT2 := hT1.dropped 1 (by omega)
        have hT3 := hT1.dropped (k + 1) (by omega)
        rw [← List.map_drop] at hT2 hT3
        have HZ3 : Hid (∀ v ∈ ws.drop (k + 1), v.length ≤ 100000) := fun v hv => HZ.out v (List.mem_of_mem_drop hv)
        clear hD hT1
        generalize w1.alloc (.cells #[.slice none 0 0, .slice none 0 0] 56) = w2 at *
        have own0 : w2.ownsRow D 3 1 (.slice none 0 0) 0 (nCells []) := World.ownsRow_nil _ _ _ _
        have hc1 : (cap : Int) ≠ 1 := by omega
        have hk1i : (1 : Int) ≤ (k : Int) := by omega
        obtain ⟨nk, hnk⟩ : ∃ nk, nk = k - 1 := ⟨_, rfl⟩
        obtain ⟨i0, hi, hy0, hy1, hy2⟩ := info_parts infoInt
        have hD2 : D + 1 ≤ w2.heap.size := by rw [hzD]; omega
        clear p0 p1 p2 p3 q0 q1 q2 q3 g0 g1 g2 g3
        go_wp2_with fail
        rw [← hnk]
        have hnk1 : nk + 1 ≤ k := by omega
        have hnk2 : k ≤ nk + 1 := by omega
        clear hnk
        go_loopw [43] (fun s43 wr => ∃ (j : Nat) (ov : Option Addr) (cv : Nat) (ch : List Int), j ≤ nk ∧ s43 = .int .i64 j ∧ Vals wr D 56 #[.slice ov j cv, .slice none 0 0] ∧ wr.ownsRow D 3 1 (.slice ov j cv) j (nCells ch) ∧ ch.length = j ∧ Below D w1 wr ∧ Hid (allO (placeO c.1) (((ws.take k).drop 1).take j) = some ch)) (fun s43 _ => nk - (intOf s43).toNat)
        case atStart => exact ⟨0, none, 0, [], Nat.zero_le _, rfl, VD, own0, rfl, Ba, rfl⟩
        case round =>
          obtain ⟨j, ov, cv, ch, hj, rfl, VDr, hown, hchl, hB, HC⟩ := hrel
          clear own0 VD Ba
          have V0r := V0.keep hB (Nat.le_of_eq HDs.out.symm)
          have V1r := V1.keep hB (Nat.le_of_eq HDs.out.symm)
          have Bwr := B1.trans (hB.mono (by rw [HDs.out]; exact B1.size))
          by_cases hjk : j < nk
          · obtain ⟨_, _, eg, c0⟩ := (hT2.below hB (Nat.le_of_eq HDs.out.symm)).cell j (by omega)
            cases eg
            rw [ws_at (ws.drop 1) j (by rw [List.length_drop]; omega), getD_drop1] at c0
            have hnm := names_at ws k j (by omega) (by omega)
            have hjl : j < ((ws.take k).drop 1).length := by rw [List.length_drop, List.length_take]; omega
            have HS : Hid (0 ≤ placeN c.1 (tx (ws.getD (j + 1) [])) → allO (placeO c.1) (((ws.take k).drop 1).take (j + 1)) = some (ch ++ [placeN c.1 (tx (ws.getD (j + 1) []))])) := fun hx => by
              rw [ws_next _ j hjl, allO_snoc, HC.out, hnm]
              show (placeO c.1 (ws.getD (j + 1) [])).map _ = _
              rw [place_val hx]
              rfl
            have HNo : Hid (¬ 0 ≤ placeN c.1 (tx (ws.getD (j + 1) [])) → rteE c ((ws.take k).drop 1) (ws.drop (k + 1)) = .error 4) := fun hx => rteE_none (allO_none (by rw [← hnm]; exact ws_mem _ j hjl) (place_no hx))
            have HPl := refPlace_any oz m cz c.1 (tx (ws.getD (j + 1) [])) wr (hR1.below hB (Nat.le_of_eq HDs.out.symm)) (by omega)
            obtain ⟨P, hP⟩ : ∃ P, P = placeN c.1 (tx (ws.getD (j + 1) [])) := ⟨_, rfl⟩
            rw [← hP] at HPl HS HNo
            clear hP hnm hjl HC
            generalize tx (ws.getD (j + 1) []) = y2 at *
            have r0 : wr.cell? ⟨A, 0, none⟩ = some (.slice oz m cz) := V0r.cell 0
            go_wp2_with fail
            refine HPl.mono ?_
            rintro e w5 ⟨rfl, B5⟩
            have hDr : D ≤ wr.heap.size := by have h1 := hB.size; have h2 := HDs.out; omega
            have hBD5 := hB.trans (B5.mono hDr)
            have V05 := V0r.keep B5 (Nat.le_refl _)
            have V15 := V1r.keep B5 (Nat.le_refl _)
            have VD5 := VDr.keep B5 (Nat.le_refl _)
            have Bw5 := Bwr.trans (B5.mono Bwr.size)
            have hown5 := own_keep hown B5
            have hD5 : D + 1 ≤ w5.heap.size := VD5.lt
            clear V0r V1r VDr Bwr hown HPl r0 c0 hB
            by_cases hp : 0 ≤ P
            · have HX2 := Lib.hid (HS.out hp)
              have hp0 : ¬ P < 0 := by omega
              have VD6 := VD5.alloc (.cells #[.int .i64 P] 3)
              have s0 : w5.cell? ⟨D, 0, none⟩ = some (.slice ov j cv) := VD5.cell 0
              clear HS HNo V05 V15
              go_upto_region 16 with (first | (at_builtin; refine wpList_append_own _ rfl _ _ 53 rfl D 3 i0 _ 1 8 Tryz.underlying53 hi hy0 hy1 hy2 rfl (by decide) _ _ _ rfl (hown5.alloc _) ⟨w5.heap.size, 0, none⟩ 1 1 [.int .i64 P] rfl rfl (oneN_new _ _ _) (oneN_cell _) (by unfold maxLen; omega) (by omega) (by simp; omega) ?_; intro v' w8 hown' hgrow _; rw [← nCells_snoc] at hown'; obtain ⟨o8, c8, rfl, _⟩ := Ns.of_own (by rw [List.length_append, hchl]; rfl) hown'; have VD8 := Vals.grown VD6 (hown5.alloc _) (by decide) hgrow; have s8 : w8.cell? ⟨D, 0, none⟩ = some (.slice ov j cv) := VD8.cell 0; have z8 := VD8.free 0))
              have VD9 : Vals (w8.setCell ⟨D, 0, none⟩ (.slice o8 (j + 1) c8)) D 56 #[.slice o8 (j + 1) c8, .slice none 0 0] := by
                have := VD8.set 0 (.slice o8 (j + 1) c8)
                simpa using this
              have own9 := own_setT hown' VD8 (by decide) 0 (.slice o8 (j + 1) c8)
              have B9 := ((hBD5.alloc (by omega) (.cells #[.int .i64 P] 3)).grown hgrow (by simp; omega) (fun r e => (hown5.lt r e).1)).setCell (p := ⟨D, 0, none⟩) (Nat.le_refl D) (.slice o8 (j + 1) c8)
              clear VD5 VD6 VD8 hown' hown5 hgrow s0 s8 z8 hBD5
              generalize w8.setCell ⟨D, 0, none⟩ (.slice o8 (j + 1) c8) = w9 at *
              go_wp2_with fail
              go_roundw
              case rel => exact ⟨j + 1, o8, c8, ch ++ [P], by omega, by go_num, VD9, own9, by rw [List.length_append, hchl]; rfl, B9, HX2⟩
              case measure => simp [intOf]; omega
            · have HW : Hid (addT c ws = .error 4) := by show _ = _; rw [HX.out]; exact HNo.out (by omega)
              have hp0 : P < 0 := by omega
              have p0 : w5.cell? ⟨A, 0, none⟩ = some (.slice oz m cz) := V05.cell 0
              have p1 : w5.cell? ⟨A, 1, none⟩ = some (.slice ob nb cb) := V05.cell 1
              have p2 : w5.cell? ⟨A, 2, none⟩ = some (.int .i64 rep) := V05.cell 2
              have p3 : w5.cell? ⟨A, 3, none⟩ = some (.int .i64 beat) := V05.cell 3
              have q0 : w5.cell? ⟨A1, 0, none⟩ = some (.slice none 0 0) := V15.cell 0
              have q1 : w5.cell? ⟨A1, 1, none⟩ = some (.slice none 0 0) := V15.cell 1
              have q2 : w5.cell? ⟨A1, 2, none⟩ = some (.int .i64 0) := V15.cell 2
              have q3 : w5.cell? ⟨A1, 3, none⟩ = some (.int .i64 0) := V15.cell 3
              have g0 := V15.free 0
              have g1 := V15.free 1
              have g2 := V15.free 2
              have g3 := V15.free 3
              have hV5 := V15.four (.slice oz m cz) (.slice ob nb cb) (.int .i64 rep) (.int .i64 beat)
              have hB5 := below_four Bw5 hA1w (.slice oz m cz) (.slice ob nb cb) (.int .i64 rep) (.int .i64 beat)
              clear HS HNo V05 V15 VD5 hown5 hBD5 HO hnb hrl HX
              go_wp2_with fail
              refine bodyPost_ret (retC rfl rfl rfl hV5) rfl ?_
              exact ⟨⟨.slice ob nb cb, 4, rfl, .inr ⟨by decide, HW.out, rfl⟩⟩, grown_all hB5 _⟩
          · obtain rfl : j = nk := by omega
            have HC2 : Hid (allO (placeO c.1) ((ws.take k).drop 1) = some ch) := by
              have e := HC.out
              rw [List.take_of_length_le (by rw [List.length_drop, List.length_take]; omega)] at e
              exact e
            have hT3r := hT3.below hB (Nat.le_of_eq HDs.out.symm)
            have hL : (ws.drop (k + 1)).length = n - (k + 1) := by rw [List.length_drop, hl]
            have hk6 : k ≤ 1000000 := by omega
            have hk2 : (k : Int) + 1 ≤ (n : Int) := by omega
            have hk3 : (0 : Int) ≤ (k : Int) + 1 := by omega
            have hk4 : (n : Int) ≤ (cap : Int) := by omega
            clear HC hT2 hT3r V0r V1r Bwr
            have hjk2 : ¬ (j : Int) < (j : Int) := by omega
            go_upto_region 17 with fail
            go_cut [61, 62, 63, 64, 65, 66] (fun _ _ _ s64 s65 s66 wx => ∃ (oq : Option Addr) (cq : Nat), s64 = .slice oq (n - (k + 1)) cq ∧ s65 = .int .i64 ((n - (k + 1) : Nat) : Int) ∧ s66 = .int .i64 0 ∧ wr = wx ∧ Ts w1 oq (n - (k + 1)) cq ((ws.drop (k + 1)).map tx))
            case first =>
              by_cases hce : cap = k + 1
              · have hcle : (cap : Int) ≤ (k : Int) + 1 := by omega
                have hl0 : n - (k + 1) ≤ 0 := by omega
                clear hce
                go_wp2_with fail
                go_meet
                case rel =>
                  refine ⟨_, _, rfl, rfl, rfl, rfl, ?_⟩
                  refine ⟨by rw [List.length_map, hL], by omega, fun i hi => absurd hi (by omega)⟩
              · have hci : (cap : Int) ≠ (k : Int) + 1 := by omega
                go_wp2_with fail
                go_meet
                case rel => exact ⟨_, _, rfl, rfl, rfl, rfl, hT3⟩
            case rest =>
              obtain ⟨oq, cq, rfl, rfl, rfl, rfl, hT4⟩ := hcut
              obtain ⟨L, hLn⟩ : ∃ L, L = n - (k + 1) := ⟨_, rfl⟩
              rw [← hLn] at hT4 hL
              have hLn2 : L ≤ 100000 := by omega
              rw [← hLn]
              clear hLn hT3
              have ownM0 : wr.ownsRow D 59 3 (.slice none 0 0) 0 (cellsM []) := World.ownsRow_nil _ _ _ _
              go_wp2_with fail
              go_loopw [66] (fun s66 wx => ∃ (i : Nat) (ow : Option Addr) (cw : Nat) (ms : List M3), i ≤ L ∧ s66 = .int .i64 i ∧ Vals wx D 56 #[.slice ov j cv, .slice ow i cw] ∧ wx.ownsRow D 3 1 (.slice ov j cv) j (nCells ch) ∧ wx.ownsRow D 59 3 (.slice ow i cw) i (cellsM ms) ∧ ms.length = i ∧ Below D w1 wx ∧ Hid (allO askedB ((ws.drop (k + 1)).take i) = some ms)) (fun s66 _ => L - (intOf s66).toNat)
              case atStart => exact ⟨0, none, 0, [], Nat.zero_le _, rfl, VDr, hown, ownM0, rfl, hB, rfl⟩
              case round =>
                obtain ⟨i, ow, cw, ms, hi, rfl, VDx, hownI, hownM, hml, hBx, HMs⟩ := hrel
                clear ownM0 VDr hown hB
                have V0x := V0.keep hBx (Nat.le_of_eq HDs.out.symm)
                have V1x := V1.keep hBx (Nat.le_of_eq HDs.out.symm)
                have Bwx := B1.trans (hBx.mono (by rw [HDs.out]; exact B1.size))
                have hDx : D + 1 ≤ wr.heap.size := VDx.lt
                by_cases hiL : i < L
                · obtain ⟨g4, o4, rfl, c4⟩ := (hT4.below hBx (Nat.le_of_eq HDs.out.symm)).cell i hiL
                  have hil : i < (ws.drop (k + 1)).length := by rw [hL]; exact hiL
                  rw [ws_at (ws.drop (k + 1)) i hil] at c4
                  have hz4 : (tx ((ws.drop (k + 1)).getD i [])).size ≤ 100000 := by rw [tx_size]; exact HZ3.out _ (ws_mem _ i hil)
                  have HA := refAsked_any (tx ((ws.drop (k + 1)).getD i [])) wr hz4
                  rw [show bs (tx ((ws.drop (k + 1)).getD i [])) = (ws.drop (k + 1)).getD i [] from tx_data _] at HA
                  have HS3 : Hid (∀ x, askedB ((ws.drop (k + 1)).getD i []) = some x → allO askedB ((ws.drop (k + 1)).take (i + 1)) = some (ms ++ [x])) := fun x hx => by
                    rw [ws_next _ i hil, allO_snoc, HMs.out]
                    show (askedB ((ws.drop (k + 1)).getD i [])).map _ = _
                    rw [hx]
                    rfl
                  have HN3 : Hid (askedB ((ws.drop (k + 1)).getD i []) = none → addT c ws = .error 13) := fun hx => by rw [HX.out]; exact rteE_char HC2.out (allO_none (ws_mem _ i hil) hx)
                  clear HMs hil
                  generalize tx ((ws.drop (k + 1)).getD i []) = y4 at *
                  generalize (ws.drop (k + 1)).getD i [] = v4 at *
                  go_wp2_with fail
                  refine HA.mono ?_
                  rintro e w5 ⟨⟨x, hx, rfl⟩ | ⟨hx, x, rfl⟩, B5⟩
                  · obtain ⟨q, s, u⟩ := x
                    have HX3 := Lib.hid (HS3.out _ hx)
                    have VD5 := VDx.keep B5 (Nat.le_refl _)
                    have hBD5 := hBx.trans (B5.mono (by omega))
                    have ownI5 := own_keep hownI B5
                    have ownM5 := own_keep hownM B5
                    have hD5 : D + 1 ≤ w5.heap.size := VD5.lt
                    clear HS3 HN3 hx V0x V1x Bwx VDx hownI hownM HA c4 hBx B5
                    dsimp only [aggM]
                    have VD6 := VD5.alloc (.cells #[.int .i64 q, .string s, .string u] 59)
                    have ownI6 := ownI5.alloc (.cells #[.int .i64 q, .string s, .string u] 59)
                    have ownM6 := ownM5.alloc (.cells #[.int .i64 q, .string s, .string u] 59)
                    have VM6 := Vals.new w5 59 #[.int .i64 q, .string s, .string u]
                    have hB6 := hBD5.alloc (by omega) (.cells #[.int .i64 q, .string s, .string u] 59)
                    clear VD5 ownI5 ownM5 hBD5
                    go_upto_region 23 with fail
                    generalize w5.alloc (.cells #[.int .i64 q, .string s, .string u] 59) = w6 at *
                    generalize w5.heap.size = G6 at *
                    have hD6 : D + 1 ≤ w6.heap.size := VD6.lt
                    have d0 : w6.cell? ⟨G6, 0, none⟩ = some (.int .i64 q) := VM6.cell 0
                    have d1 : w6.cell? ⟨G6, 1, none⟩ = some (.string s) := VM6.cell 1
                    have d2 : w6.cell? ⟨G6, 2, none⟩ = some (.string u) := VM6.cell 2
                    have s1 : w6.cell? ⟨D, 1, none⟩ = some (.slice ow i cw) := VD6.cell 1
                    have hone := Ms.one w6 (q, s, u)
                    have VD7 := VD6.alloc (.cells #[.int .i64 q, .string s, .string u] 59)
                    go_upto_region 24 with (first | (at_builtin; refine wpList_append_ms _ rfl (.tmp 79) (.tmp 81) rfl D rfl (ownM6.alloc _) rfl hone (by omega) (by simp <;> omega) ?_; intro v1 w8 own1 hg1; rw [← cellsM_append] at own1; obtain ⟨o8, c8, rfl, _, _⟩ := Ms.of_own (by rw [List.length_append, hml]; rfl) own1; have VD8 := Vals.grown VD7 (ownM6.alloc _) (by decide) hg1; have s8 : w8.cell? ⟨D, 1, none⟩ = some (.slice ow i cw) := VD8.cell 1; have z8 := VD8.free 1))
                    have VD9 : Vals (w8.setCell ⟨D, 1, none⟩ (.slice o8 (i + 1) c8)) D 56 #[.slice ov j cv, .slice o8 (i + 1) c8] := by
                      have := VD8.set 1 (.slice o8 (i + 1) c8)
                      simpa using this
                    have ownI8 := own_other (ownI6.alloc _) (ownM6.alloc _) (by decide) hg1
                    have ownI9 := own_setT ownI8 VD8 (by decide) 1 (.slice o8 (i + 1) c8)
                    have ownM9 := own_setT own1 VD8 (by decide) 1 (.slice o8 (i + 1) c8)
                    have B9 := ((hB6.alloc (by omega) (.cells #[.int .i64 q, .string s, .string u] 59)).grown hg1 (by simp; omega) (fun r e => (ownM6.lt r e).1)).setCell (p := ⟨D, 1, none⟩) (Nat.le_refl D) (.slice o8 (i + 1) c8)
                    clear VD6 VD7 VD8 ownI6 ownM6 ownI8 own1 hg1 hB6 hone d0 d1 d2 s1 s8 z8 VM6
                    generalize w8.setCell ⟨D, 1, none⟩ (.slice o8 (i + 1) c8) = w9 at *
                    go_wp2_with fail
                    go_roundw
                    case rel => exact ⟨i + 1, o8, c8, ms ++ [(q, s, u)], by omega, by go_num, VD9, ownI9, ownM9, by rw [List.length_append, hml]; rfl, B9, HX3⟩
                    case measure => simp [intOf]; omega
                  · have HW := Lib.hid (HN3.out hx)
                    obtain ⟨q, s, u⟩ := x
                    dsimp only [aggM]
                    have V05 := (V0x.keep B5 (Nat.le_refl _)).alloc (.cells #[.int .i64 q, .string s, .string u] 59)
                    have V15 := (V1x.keep B5 (Nat.le_refl _)).alloc (.cells #[.int .i64 q, .string s, .string u] 59)
                    have Bw5 := (Bwx.trans (B5.mono Bwx.size)).alloc (Bwx.trans (B5.mono Bwx.size)).size (.cells #[.int .i64 q, .string s, .string u] 59)
                    clear V0x V1x Bwx VDx hownI hownM HA c4 hBx B5 HS3 HN3 hx
                    go_upto_region 21 with fail
                    generalize w5.alloc (.cells #[.int .i64 q, .string s, .string u] 59) = w6 at *
                    have p0 : w6.cell? ⟨A, 0, none⟩ = some (.slice oz m cz) := V05.cell 0
                    have p1 : w6.cell? ⟨A, 1, none⟩ = some (.slice ob nb cb) := V05.cell 1
                    have p2 : w6.cell? ⟨A, 2, none⟩ = some (.int .i64 rep) := V05.cell 2
                    have p3 : w6.cell? ⟨A, 3, none⟩ = some (.int .i64 beat) := V05.cell 3
                    have q0 : w6.cell? ⟨A1, 0, none⟩ = some (.slice none 0 0) := V15.cell 0
                    have q1 : w6.cell? ⟨A1, 1, none⟩ = some (.slice none 0 0) := V15.cell 1
                    have q2 : w6.cell? ⟨A1, 2, none⟩ = some (.int .i64 0) := V15.cell 2
                    have q3 : w6.cell? ⟨A1, 3, none⟩ = some (.int .i64 0) := V15.cell 3
                    have g0 := V15.free 0
                    have g1 := V15.free 1
                    have g2 := V15.free 2
                    have g3 := V15.free 3
                    have hV5 := V15.four (.slice oz m cz) (.slice ob nb cb) (.int .i64 rep) (.int .i64 beat)
                    have hB5 := below_four Bw5 hA1w (.slice oz m cz) (.slice ob nb cb) (.int .i64 rep) (.int .i64 beat)
                    clear V05 V15 HO hnb hrl HX
                    go_wp2_with fail
                    refine bodyPost_ret (retC rfl rfl rfl hV5) rfl ?_
                    exact ⟨⟨.slice ob nb cb, 13, rfl, .inr ⟨by decide, HW.out, rfl⟩⟩, grown_all hB5 _⟩
                · obtain rfl : i = L := by omega
                  have HM2 : Hid (allO askedB (ws.drop (k + 1)) = some ms) := by
                    have e := HMs.out
                    rw [List.take_of_length_le (by rw [hL]; exact Nat.le_refl _)] at e
                    exact e
                  have HE : Hid (addT c ws = if rteR c.1.length (ch, ms) = true then .ok (c.1, c.2.1 ++ [(ch, ms)], c.2.2) else .error 3) := by show _ = _; rw [HX.out]; exact rteE_end HC2.out HM2.out
                  have hSM := shortM_of HM2.out
                  obtain ⟨_, _, ee, hNs⟩ := Ns.of_own hchl hownI
                  cases ee
                  obtain ⟨_, _, ee, hMs, _⟩ := Ms.of_own hml hownM
                  cases ee
                  have HRt := refRoute_any m ov j cv ow i cw (ch, ms) wr hNs hMs (by omega) (by omega) hSM hm5
                  rw [hrl] at HE
                  obtain ⟨rr, hrr⟩ : ∃ rr, rr = rteR m (ch, ms) := ⟨_, rfl⟩
                  rw [← hrr] at HRt HE
                  clear hrr hSM hNs hMs HMs HM2 HC2 HX hT4 hR1
                  have e0 : wr.cell? ⟨D, 0, none⟩ = some (.slice ov j cv) := VDx.cell 0
                  have e1 : wr.cell? ⟨D, 1, none⟩ = some (.slice ow i cw) := VDx.cell 1
                  have r0 : wr.cell? ⟨A, 0, none⟩ = some (.slice oz m cz) := V0x.cell 0
                  go_wp2_with fail
                  refine HRt.mono ?_
                  rintro e w7 ⟨rfl, B7⟩
                  have V07 := V0x.keep B7 (Nat.le_refl _)
                  have V17 := V1x.keep B7 (Nat.le_refl _)
                  have VD7 := VDx.keep B7 (Nat.le_refl _)
                  have Bw7 := Bwx.trans (B7.mono Bwx.size)
                  have ownI7 := own_keep hownI B7
                  have ownM7 := own_keep hownM B7
                  clear e0 e1 r0 HRt V0x V1x VDx Bwx hownI hownM hBx B7
                  cases rr with
                  | false =>
                    have HW : Hid (addT c ws = .error 3) := by show _ = _; rw [HE.out]; rfl
                    have p0 : w7.cell? ⟨A, 0, none⟩ = some (.slice oz m cz) := V07.cell 0
                    have p1 : w7.cell? ⟨A, 1, none⟩ = some (.slice ob nb cb) := V07.cell 1
                    have p2 : w7.cell? ⟨A, 2, none⟩ = some (.int .i64 rep) := V07.cell 2
                    have p3 : w7.cell? ⟨A, 3, none⟩ = some (.int .i64 beat) := V07.cell 3
                    have q0 : w7.cell? ⟨A1, 0, none⟩ = some (.slice none 0 0) := V17.cell 0
                    have q1 : w7.cell? ⟨A1, 1, none⟩ = some (.slice none 0 0) := V17.cell 1
                    have q2 : w7.cell? ⟨A1, 2, none⟩ = some (.int .i64 0) := V17.cell 2
                    have q3 : w7.cell? ⟨A1, 3, none⟩ = some (.int .i64 0) := V17.cell 3
                    have g0 := V17.free 0
                    have g1 := V17.free 1
                    have g2 := V17.free 2
                    have g3 := V17.free 3
                    have hV5 := V17.four (.slice oz m cz) (.slice ob nb cb) (.int .i64 rep) (.int .i64 beat)
                    have hB5 := below_four Bw7 hA1w (.slice oz m cz) (.slice ob nb cb) (.int .i64 rep) (.int .i64 beat)
                    clear V07 V17 VD7 ownI7 ownM7 HO hnb hrl HE
                    go_wp2_with fail
                    refine bodyPost_ret (retC rfl rfl rfl hV5) rfl ?_
                    exact ⟨⟨.slice ob nb cb, 3, rfl, .inr ⟨by decide, HW.out, rfl⟩⟩, grown_all hB5 _⟩
                  | true =>
                    have HW : Hid (addT c ws = .ok (c.1, c.2.1 ++ [(ch, ms)], c.2.2)) := by show _ = _; rw [HE.out]; rfl
                    clear HE
                    have HO7 := HO.out.keep Bw7
                    have HO8 := HO7.keep (below_alloc w7 (.cells #[.slice ov j cv, .slice ow i cw] 56))
                    have own8 := HO8.own
                    rw [hnb] at own8
                    have V08 := V07.alloc (.cells #[.slice ov j cv, .slice ow i cw] 56)
                    have V18 := V17.alloc (.cells #[.slice ov j cv, .slice ow i cw] 56)
                    have B8 := Bw7.alloc Bw7.size (.cells #[.slice ov j cv, .slice ow i cw] 56)
                    have hnews := World.news_of_block (Vals.new w7 56 #[.slice ov j cv, .slice ow i cw])
                    have I8 := own_weaken (ownI7.alloc (.cells #[.slice ov j cv, .slice ow i cw] 56)) hbD
                    have M8 := own_weaken (ownM7.alloc (.cells #[.slice ov j cv, .slice ow i cw] 56)) hbD
                    have hb7 := Bw7.size
                    have hlen9 : (c.2.1 ++ [(ch, ms)]).length = nb + 1 := by rw [List.length_append, hnb]; rfl
                    have e0 : w7.cell? ⟨D, 0, none⟩ = some (.slice ov j cv) := VD7.cell 0
                    have e1 : w7.cell? ⟨D, 1, none⟩ = some (.slice ow i cw) := VD7.cell 1
                    have p1 : w7.cell? ⟨A, 1, none⟩ = some (.slice ob nb cb) := V07.cell 1
                    clear HO7 ownI7 ownM7 V07 V17 Bw7 VD7
                    go_upto_region 28 with (first | (at_builtin; refine wpList_append_rt (pa := ov) (n1 := j) (c1 := cv) (pb := ow) (n2 := i) (c2 := cw) _ rfl (.tmp 93) (.tmp 95) rfl base rfl own8 rfl hnews (by omega) (by simp <;> omega) ?_; intro v1 w8 own1 hg1; have OS := Own2.snoc HO8 (t := (ch, ms)) (q := (.slice ov j cv, .slice ow i cw)) (by rw [hchl]; exact I8) (by rw [hml]; exact M8) (by rw [hnb]; exact own1) hg1; obtain ⟨o8, c8, e8, _, _⟩ := OS.lies; rw [hlen9] at e8; subst e8; have V09 := Vals.grown V08 own8 (by decide) hg1; have V19 := Vals.grown V18 own8 (by decide) hg1; have p8 : w8.cell? ⟨A, 1, none⟩ = some (.slice ob nb cb) := V09.cell 1; have z8 := V09.free 1))
                    have V0a : Vals (w8.setCell ⟨A, 1, none⟩ (.slice o8 (nb + 1) c8)) A 25 (cfgV (.slice oz m cz) (.slice o8 (nb + 1) c8) rep beat) := by
                      have := V09.set 1 (.slice o8 (nb + 1) c8)
                      simpa using this
                    have V1a : Vals (w8.setCell ⟨A, 1, none⟩ (.slice o8 (nb + 1) c8)) A1 25 (cfgV (.slice none 0 0) (.slice none 0 0) 0 0) := V19.other (Ne.symm hAA) 1 _
                    have OS2 := OS.setT V09 1 (.slice o8 (nb + 1) c8)
                    have Bz := (Below.refl w.heap.size w8).setCell (p := ⟨A, 1, none⟩) hAw (.slice o8 (nb + 1) c8)
                    have hg2 := Lib.hid hg1
                    clear V08 V18 V09 V19 own1 own8 hnews p1 p8 z8 e0 e1 OS HO8 I8 M8
                    generalize w8.setCell ⟨A, 1, none⟩ (.slice o8 (nb + 1) c8) = w9 at *
                    have p0 : w9.cell? ⟨A, 0, none⟩ = some (.slice oz m cz) := V0a.cell 0
                    have p1 : w9.cell? ⟨A, 1, none⟩ = some (.slice o8 (nb + 1) c8) := V0a.cell 1
                    have p2 : w9.cell? ⟨A, 2, none⟩ = some (.int .i64 rep) := V0a.cell 2
                    have p3 : w9.cell? ⟨A, 3, none⟩ = some (.int .i64 beat) := V0a.cell 3
                    have q0 : w9.cell? ⟨A1, 0, none⟩ = some (.slice none 0 0) := V1a.cell 0
                    have q1 : w9.cell? ⟨A1, 1, none⟩ = some (.slice none 0 0) := V1a.cell 1
                    have q2 : w9.cell? ⟨A1, 2, none⟩ = some (.int .i64 0) := V1a.cell 2
                    have q3 : w9.cell? ⟨A1, 3, none⟩ = some (.int .i64 0) := V1a.cell 3
                    have g0 := V1a.free 0
                    have g1 := V1a.free 1
                    have g2 := V1a.free 2
                    have g3 := V1a.free 3
                    have hV5 := V1a.four (.slice oz m cz) (.slice o8 (nb + 1) c8) (.int .i64 rep) (.int .i64 beat)
                    have hB5 := below_four Bz hA1w (.slice oz m cz) (.slice o8 (nb + 1) c8) (.int .i64 rep) (.int .i64 beat)
                    have OS3 := OS2.four V1a (.slice oz m cz) (.slice o8 (nb + 1) c8) (.int .i64 rep) (.int .i64 beat)
                    have HFr := Lib.hid (frame_end B8 hg1 hB5)
                    have HOS := Lib.hid OS3
                    clear V0a V1a OS2 OS3 Bz hB5 B8 hg1 hg2 HO hnb hrl
                    go_wp2_with fail
                    refine bodyPost_ret (retC rfl rfl rfl hV5) rfl ?_
                    exact ⟨⟨.slice o8 (nb + 1) c8, 0, rfl, .inl ⟨rfl, _, _, HW.out, HOS.out⟩⟩, HFr.out⟩
    · have hkl : ¬ (k : Int) < (n : Int) := by omega
      have HW := Lib.hid (addT_lack hn4 (ws := ws) fun i h1 h2 => HA.out i h1 (by omega))
      have hV5 := V1.four (.slice oz m cz) (.slice ob nb cb) (.int .i64 rep) (.int .i64 beat)
      have hB5 := below_four B1 hA1w (.slice oz m cz) (.slice ob nb cb) (.int .i64 rep) (.int .i64 beat)
      clear HZ hR1 hT1 hl V0 V1 B1 HO hnb hrl HA
      go_wp2_with fail
      refine bodyPost_ret (retC rfl rfl rfl hV5) rfl ?_
      exact ⟨⟨.slice ob nb cb, 12, rfl, .inr ⟨by decide, HW.out, rfl⟩⟩, grown_all hB5 _⟩
end Go.Proofs.YtbihaoibmkdfjaaGreatDoor
