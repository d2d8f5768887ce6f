/-
  The program's own: a text's lines, numbers, waits, chains and matchers of words (package config).
  The program's own: a receiver of its name and numbers, and the first word that is one (package config).
-/
import Derived.Test.YtbihaoibmkdfjaaGreatDoorCf2
import Derived.Test.YtbihaoibmkdfjaaGreatDoorRfcG
import Derived.Test.YtbihaoibmkdfjaaGreatDoorWirT
import Derived.StillTailTactics
namespace Go.Proofs.YtbihaoibmkdfjaaGreatDoor
open Go.RowKit Go.Shelf
set_option linter.unusedVariables false

/-- texts that lie in a block of their own -/
structure Tv (w : World) (A n cap : Nat) (l : List ByteArray) : Prop where
  len : l.length = n
  room : n ≤ cap
  blk : ∃ arr, Vals w A 9 arr ∧ ∀ i, i < n → arr[i]? = some (.string (l.getD i ByteArray.empty))
theorem Tv.ts {w : World} {A n cap : Nat} {l : List ByteArray} (h : Tv w A n cap l) : Ts w (some ⟨A, 0, none⟩) n cap l := by
  obtain ⟨arr, hV, hc⟩ := h.blk
  refine ⟨h.len, h.room, fun i hi => ⟨A, 0, rfl, ?_⟩⟩
  rw [Nat.zero_add, hV.cell i, hc i hi]
theorem Tv.keep {w w' : World} {A n cap : Nat} {l : List ByteArray} (h : Tv w A n cap l) (hB : Below w.heap.size w w') : Tv w' A n cap l := by
  obtain ⟨arr, hV, hc⟩ := h.blk
  exact ⟨h.len, h.room, arr, hV.keep hB (Nat.le_refl _), hc⟩
theorem Tv.take {w : World} {A n cap : Nat} {l : List ByteArray} (h : Tv w A n cap l) {m : Nat} (hm : m ≤ n) : Tv w A m cap (l.take m) := by
  obtain ⟨arr, hV, hc⟩ := h.blk
  refine ⟨by rw [List.length_take, h.len]; omega, by have := h.room; omega, arr, hV, fun i hi => ?_⟩
  rw [hc i (by omega), List.getD_eq_getElem?_getD, List.getD_eq_getElem?_getD, List.getElem?_take_of_lt hi]
theorem tv_split {w : World} {A : Nat} {ls : List (List UInt8)} (hV : Vals w A 9 ((ls.map tx).map Value.string).toArray) : Tv w A ls.length ls.length (ls.map tx) := by
  refine ⟨by rw [List.length_map], Nat.le_refl _, _, hV, fun i hi => ?_⟩
  simp [List.getD_eq_getElem?_getD, hi]
theorem empty_text (s : ByteArray) : (s.toList == []) = decide (s = ByteArray.empty) := by
  have e : ([] : List UInt8) = ByteArray.empty.toList := by rw [ByteArray.toList_eq]; rfl
  rw [e]
  by_cases h : s = ByteArray.empty
  · subst h; simp
  · rw [decide_eq_false h]
    have : s.toList ≠ ByteArray.empty.toList := fun e => h (toList_inj e)
    simpa using this
theorem tx_empty (v : List UInt8) : tx v = ByteArray.empty ↔ v = [] := by
  constructor
  · intro h
    exact tx_inj (a := v) (b := []) h
  · rintro rfl; rfl
set_option maxRecDepth 100000 in
set_option maxHeartbeats 1600000 in
theorem lines_c (s : ByteArray) (w : World) (hs : s.size ≤ 100000) :
    Calls Tryz.prog 16 #[.string s] w fun e w' => (∃ A cap, e = .returned (.slice (some ⟨A, 0, none⟩) (linesB (bs s)).length cap) ∧ Tv w' A (linesB (bs s)).length cap ((linesB (bs s)).map tx) ∧ w.heap.size ≤ A) ∧ Below w.heap.size w w' := by
  have HS := split_at 10 s w hs
  have hL := split_lines (bs s) []
  have hsz := lines_sizes' (bs s)
  change splitC 10 [] (bs s) = linesB (bs s) ++ [[]] ∨ (splitC 10 [] (bs s) = linesB (bs s) ∧ ∃ pre v, linesB (bs s) = pre ++ [v] ∧ v ≠ []) at hL
  have hbz : (bs s).length = s.size := Array.length_toList
  generalize linesB (bs s) = ls at *
  generalize splitC 10 [] (bs s) = cs at *
  rcases hL with rfl | ⟨rfl, pre, v, rfl, hv⟩
  · obtain ⟨L, hLn⟩ : ∃ L, ls.length = L := ⟨_, rfl⟩
    have hll : (ls ++ [[]]).length = L + 1 := by rw [List.length_append, hLn]; rfl
    rw [hll] at HS
    have hgl : ((ls ++ [[]]).map tx).getD L ByteArray.empty = ByteArray.empty := by
      rw [List.getD_eq_getElem?_getD, List.getElem?_map, List.getElem?_append_right (by omega), hLn, Nat.sub_self]
      rfl
    have htk : ((ls ++ [[]]).map tx).take L = ls.map tx := by
      rw [← List.map_take, ← hLn, List.take_left]
    have hLb : L ≤ 100001 := by omega
    have HG := Lib.hid hgl
    have HK := Lib.hid htk
    have HB0 : ((ByteArray.empty).toList == ([] : List UInt8)) = true := by rw [ByteArray.toList_eq]; rfl
    have HLn := Lib.hid hLn
    clear hgl htk hsz hbz hll
    rw [hLn]
    go_enter Tryz.func16, Tryz.ntmps16
    go_wp2_with fail
    refine HS.mono ?_
    rintro e w2 ⟨rfl, hT, hV, B2⟩
    obtain ⟨g, o, e0, c0⟩ := hT.cell L (by omega)
    cases e0
    rw [HG.out, Nat.zero_add] at c0
    have hTv : Tv w2 w.heap.size (L + 1) (L + 1) ((ls ++ [[]]).map tx) := by
      have := tv_split hV
      rw [List.length_append, HLn.out] at this
      exact this
    have hTk := hTv.take (m := L) (by omega)
    rw [HK.out] at hTk
    have HTk := Lib.hid hTk
    clear hT hV hTv hTk HS
    go_wp2_with fail
    go_ret
    exact ⟨⟨_, _, rfl, HTk.out, Nat.le_refl _⟩, B2⟩
  · obtain ⟨L, hLn⟩ : ∃ L, pre.length = L := ⟨_, rfl⟩
    have hll : (pre ++ [v]).length = L + 1 := by rw [List.length_append, hLn]; rfl
    rw [hll] at HS hsz ⊢
    have hgl : ((pre ++ [v]).map tx).getD L ByteArray.empty = tx v := by
      rw [List.getD_eq_getElem?_getD, List.getElem?_map, List.getElem?_append_right (by omega), hLn, Nat.sub_self]
      rfl
    have hLb : L ≤ 100001 := by omega
    have hq : ((tx v).toList == ([] : List UInt8)) = false := by
      rw [empty_text]
      exact decide_eq_false fun h => hv ((tx_empty v).1 h)
    have HG := Lib.hid hgl
    have HLn := Lib.hid hLn
    clear hgl hsz hbz hll hv
    generalize tx v = y at *
    go_enter Tryz.func16, Tryz.ntmps16
    go_wp2_with fail
    refine HS.mono ?_
    rintro e w2 ⟨rfl, hT, hV, B2⟩
    obtain ⟨g, o, e0, c0⟩ := hT.cell L (by omega)
    cases e0
    rw [HG.out, Nat.zero_add] at c0
    have hTv : Tv w2 w.heap.size (L + 1) (L + 1) ((pre ++ [v]).map tx) := by
      have := tv_split hV
      rw [List.length_append, HLn.out] at this
      exact this
    have HTk := Lib.hid hTv
    clear hT hV hTv HS
    go_wp2_with fail
    go_ret
    exact ⟨⟨_, _, rfl, HTk.out, Nat.le_refl _⟩, B2⟩
set_option maxRecDepth 100000 in
set_option maxHeartbeats 3200000 in
theorem numbers_c (oa : Option Addr) (n cap : Nat) (ws : List (List UInt8)) (w : World) (h : Ts w oa n cap (ws.map tx)) (hn : n ≤ 100000) (hz : ∀ v ∈ ws, v.length ≤ 100000) (hT : Tabs w) :
    Calls Tryz.prog 58 #[.slice oa n cap] w fun e w' => NumsOut w' w e ws ∧ Below w.heap.size w w' := by
  obtain ⟨i0, hi, hz0, hz1, hz2⟩ := info_parts infoInt
  have hl : ws.length = n := by rw [← h.len, List.length_map]
  have hr := h.room
  have HZ := Lib.hid hz
  have HL := Lib.hid hl
  clear hz hl
  have own0 : w.ownsRow w.heap.size 3 1 (.slice none 0 0) 0 (nCells []) := World.ownsRow_nil _ _ _ _
  go_enter Tryz.func58, Tryz.ntmps58
  go_wp2_with fail
  go_loopw [4, 11] (fun s4 s11 wr => ∃ (k : Nat) (ns : List Nat), k ≤ n ∧ s11 = .int .i64 k ∧ wr.ownsRow w.heap.size 3 1 s4 k (nCells (ns.map fun n : Nat => (n : Int))) ∧ ns.length = k ∧ Below w.heap.size w wr ∧ Hid (allO numB (ws.take k) = some ns)) (fun _ s11 _ => n - (intOf s11).toNat)
  case atStart => exact ⟨0, [], Nat.zero_le _, rfl, own0, rfl, Below.refl _ _, rfl⟩
  case round =>
    obtain ⟨k, ns, hk, rfl, hown, hlk, hB, HO⟩ := hrel
    clear own0
    by_cases hlt : k < n
    · obtain ⟨g, o, rfl, c0⟩ := (h.below hB (Nat.le_refl _)).cell k hlt
      have hkl : k < ws.length := by rw [HL.out]; exact hlt
      rw [ws_at ws k hkl] at c0
      have hzk : (tx (ws.getD k [])).size ≤ 100000 := by rw [tx_size]; exact HZ.out _ (ws_mem ws k hkl)
      have HA := parse_number (tx (ws.getD k [])) wr (by omega) (hT.below hB (Nat.le_refl _))
      rw [show bs (tx (ws.getD k [])) = ws.getD k [] from tx_data _] at HA
      have HS : Hid (∀ x, numB (ws.getD k []) = some x → allO numB (ws.take (k + 1)) = some (ns ++ [x])) := fun x hx => by
        rw [ws_next ws k hkl, allO_snoc, HO.out]
        show (numB (ws.getD k [])).map _ = _
        rw [hx]
        rfl
      have HN : Hid (numB (ws.getD k []) = none → allO numB ws = none) := allO_none (ws_mem ws k hkl)
      generalize tx (ws.getD k []) = y at *
      generalize ws.getD k [] = v at *
      clear h HZ HO HL hkl hT
      go_wp2_with fail
      refine HA.mono ?_
      rintro e w5 ⟨⟨x, hx, rfl⟩ | ⟨hx, rfl⟩, B5⟩
      · have HX := Lib.hid (HS.out x hx)
        have hB5 := hB.trans (B5.mono hB.size)
        have hown5 := own_keep hown B5
        have hz5 := hB5.size
        clear HS HN hx hown hB B5 HA c0
        go_wp2_with (at_builtin; refine wpList_append_own _ rfl _ _ 53 rfl w.heap.size 3 i0 _ 1 8 Tryz.underlying53 hi hz0 hz1 hz2 rfl (by decide) _ _ _ rfl (hown5.alloc _) ⟨w5.heap.size, 0, none⟩ 1 1 [.int .i64 (x : Int)] rfl rfl (oneN_new _ _ _) (oneN_cell _) (by unfold maxLen; omega) (by omega) (by simp; omega) ?_; intro v' w8 hown' hgrow _)
        have B8 : Below w.heap.size w w8 := (hB5.alloc hB5.size _).grown hgrow (by simp; omega) (fun r e => (hown5.lt r e).1)
        have own1 : w8.ownsRow w.heap.size 3 1 v' (k + 1) (nCells ((ns ++ [x]).map fun n : Nat => (n : Int))) := by
          rw [List.map_append, List.map_singleton, nCells_snoc]
          exact hown'
        clear hgrow hown' hown5 hB5
        go_wp2_with fail
        go_roundw
        case rel => exact ⟨k + 1, ns ++ [x], by omega, by go_num, own1, by simp [hlk], B8, HX⟩
        case measure => simp [intOf]; omega
      · have HX := Lib.hid (HN.out hx)
        have hB5 := hB.trans (B5.mono hB.size)
        clear HS HN hx hown hB HA c0
        go_wp2_with fail
        go_ret2
        exact ⟨.inr ⟨HX.out, rfl⟩, hB5⟩
    · obtain rfl : k = n := by omega
      obtain ⟨oa', cap', rfl, hM⟩ := Ns.of_own (by rw [List.length_map]; exact hlk) hown
      have HM := Lib.hid hM
      have HX : Hid (allO numB ws = some ns) := by
        have e := HO.out
        rw [List.take_of_length_le (by rw [HL.out]; exact Nat.le_refl _)] at e
        exact e
      have HE := HL
      clear h HZ HO HL hown hM
      go_wp2_with fail
      go_ret2
      exact ⟨.inl ⟨ns, HX.out, oa', cap', by rw [HE.out]; rfl, by rw [HE.out]; exact HM.out⟩, hB⟩
set_option maxRecDepth 100000 in
set_option maxHeartbeats 1600000 in
theorem wait_of (u : List UInt8) (ws : List (List UInt8)) (oa : Option Addr) (n cap : Nat) (w : World) (h : Ts w oa n cap (ws.map tx)) (hn : n ≤ 100000) (hz : ∀ v ∈ ws, v.length ≤ 100000) (hT : Tabs w) :
    Calls Tryz.prog 63 #[.slice oa n cap] w fun e w' => (∃ m er, e = .returned (.tuple #[.int .i64 m, .int .i64 er]) ∧ OneIs (u :: ws) m er) ∧ Below w.heap.size w w' := by
  have hl := h.len
  rw [List.length_map] at hl
  have hr := h.room
  by_cases h2 : n = 1
  · obtain ⟨g, o, rfl, c0⟩ := h.cell 0 (by omega)
    rw [ws_at ws 0 (by omega), Nat.add_zero] at c0
    have hz1 : (tx (ws.getD 0 [])).size ≤ 100000 := by rw [tx_size]; exact hz _ (ws_mem ws 0 (by omega))
    have HA := parse_number (tx (ws.getD 0 [])) w (by omega) hT
    rw [show bs (tx (ws.getD 0 [])) = ws.getD 0 [] from tx_data _] at HA
    have HO : Hid (oneB (u :: ws) = match numB (ws.getD 0 []) with
      | none => .error 13
      | some m => if oftenB (m : Int) = true then .ok (m : Int) else .error 3) := by
      show _ = _
      unfold oneB
      rw [if_neg (by simp; omega)]
      show (match numB (ws.getD 0 []) with | none => _ | some n => _) = _
      cases numB (ws.getD 0 []) <;> rfl
    have h2i : ((n : Int) != 1) = false := by simp [h2]
    generalize tx (ws.getD 0 []) = y at *
    clear h hz hT
    go_enter Tryz.func63, Tryz.ntmps63
    go_wp2_with fail
    refine HA.mono ?_
    rintro e w1 ⟨⟨x, hx, rfl⟩ | ⟨hx, rfl⟩, B1⟩
    · rw [hx] at HO
      have HF := fun w => wait_c (x : Int) w
      cases ho : oftenB (x : Int) with
      | true =>
        rw [ho] at HF
        have HW : Hid (oneB (u :: ws) = .ok (x : Int)) := by show _ = _; rw [HO.out]; simp only; rw [if_pos ho]
        clear HO ho
        go_wp2_with fail
        refine (HF _).mono ?_
        rintro e w2 ⟨rfl, rfl⟩
        go_wp2_with fail
        go_ret2
        exact ⟨⟨_, _, rfl, .inl ⟨rfl, HW.out⟩⟩, B1⟩
      | false =>
        rw [ho] at HF
        have HW : Hid (oneB (u :: ws) = .error 3) := by show _ = _; rw [HO.out]; simp only; rw [if_neg (by simp [ho])]
        clear HO ho
        go_wp2_with fail
        refine (HF _).mono ?_
        rintro e w2 ⟨rfl, rfl⟩
        go_wp2_with fail
        go_ret2
        exact ⟨⟨_, _, rfl, .inr ⟨by decide, rfl, HW.out⟩⟩, B1⟩
    · rw [hx] at HO
      have HW : Hid (oneB (u :: ws) = .error 13) := HO.out
      clear HO
      go_wp2_with fail
      go_ret2
      exact ⟨⟨_, _, rfl, .inr ⟨by decide, rfl, HW.out⟩⟩, B1⟩
  · have HW : Hid (oneB (u :: ws) = .error 12) := by show _ = _; unfold oneB; rw [if_pos (by simp; omega)]
    have h2i : ((n : Int) != 1) = true := by simp; omega
    clear h hz hT
    go_enter Tryz.func63, Tryz.ntmps63
    go_wp2_with fail
    go_ret2
    exact ⟨⟨_, _, rfl, .inr ⟨by decide, rfl, HW.out⟩⟩, Below.refl _ _⟩
theorem place_or (l : List R9) (v : List UInt8) : (placeN l (tx v) < 0 ∧ placeO l v = none) ∨ (0 ≤ placeN l (tx v) ∧ placeO l v = some (placeN l (tx v))) := by
  unfold placeO placeN
  cases l.findIdx? fun r => decide (r.nm = tx v) with
  | none => left; exact ⟨by decide, rfl⟩
  | some k => right; exact ⟨by simp, rfl⟩
/-- what is told of names: their places, or that one is nobody's -/
def PlsOut (w w0 : World) (e : Ending) (l : List R9) (ws : List (List UInt8)) : Prop := (∃ ps, allO (placeO l) ws = some ps ∧ ∃ v, e = .returned (.tuple #[v, .bool true]) ∧ w.ownsRow w0.heap.size 3 1 v ws.length (nCells ps) ∧ ps.length = ws.length) ∨ (allO (placeO l) ws = none ∧ e = .returned (.tuple #[.slice none 0 0, .bool false]))
set_option maxRecDepth 100000 in
set_option maxHeartbeats 3200000 in
theorem places_c (l : List R9) (o1 : Option Addr) (n1 c1 : Nat) (A : Nat) (vb : Value) (rep beat : Int) (oa : Option Addr) (n cap : Nat) (ws : List (List UInt8)) (w : World) (hV : Vals w A 39 (cfgV (.slice o1 n1 c1) vb rep beat)) (hR : Rs w o1 n1 c1 l) (hn1 : n1 ≤ 100000) (h : Ts w oa n cap (ws.map tx)) (hn : n ≤ 100000) :
    Calls Tryz.prog 61 #[.pointer (some ⟨A, 0, none⟩), .slice oa n cap] w fun e w' => PlsOut w' w e l ws ∧ Below w.heap.size w w' := by
  obtain ⟨i0, hi, hz0, hz1, hz2⟩ := info_parts infoInt
  have hl : ws.length = n := by rw [← h.len, List.length_map]
  have hr := h.room
  have HL := Lib.hid hl
  clear hl
  have own0 : w.ownsRow w.heap.size 3 1 (.slice none 0 0) 0 (nCells []) := World.ownsRow_nil _ _ _ _
  go_enter Tryz.func61, Tryz.ntmps61
  go_wp2_with fail
  go_loopw [6, 12] (fun s6 s12 wr => ∃ (k : Nat) (ps : List Int), k ≤ n ∧ s12 = .int .i64 k ∧ wr.ownsRow w.heap.size 3 1 s6 k (nCells ps) ∧ ps.length = k ∧ Below w.heap.size w wr ∧ Hid (allO (placeO l) (ws.take k) = some ps)) (fun _ s12 _ => n - (intOf s12).toNat)
  case atStart => exact ⟨0, [], Nat.zero_le _, rfl, own0, rfl, Below.refl _ _, rfl⟩
  case round =>
    obtain ⟨k, ps, hk, rfl, hown, hlk, hB, HO⟩ := hrel
    clear own0
    by_cases hlt : k < n
    · obtain ⟨g, o, rfl, c0⟩ := (h.below hB (Nat.le_refl _)).cell k hlt
      have hkl : k < ws.length := by rw [HL.out]; exact hlt
      rw [ws_at ws k hkl] at c0
      have p0 : wr.cell? ⟨A, 0, none⟩ = some (.slice o1 n1 c1) := (hV.keep hB (Nat.le_refl _)).cell 0
      have HA := place_c (tx (ws.getD k [])) o1 n1 c1 l wr (hR.below hB (Nat.le_refl _)) (by omega)
      have hpo := place_or l (ws.getD k [])
      have HS : Hid (∀ x, placeO l (ws.getD k []) = some x → allO (placeO l) (ws.take (k + 1)) = some (ps ++ [x])) := fun x hx => by
        rw [ws_next ws k hkl, allO_snoc, HO.out]
        show (placeO l (ws.getD k [])).map _ = _
        rw [hx]
        rfl
      have HN : Hid (placeO l (ws.getD k []) = none → allO (placeO l) ws = none) := allO_none (ws_mem ws k hkl)
      obtain ⟨P, hP⟩ : ∃ P, P = placeN l (tx (ws.getD k [])) := ⟨_, rfl⟩
      rw [← hP] at HA hpo
      generalize tx (ws.getD k []) = y at *
      clear h HO HL hkl hV hR hP
      rcases hpo with ⟨hp, hpe⟩ | ⟨hp, hpe⟩
      · have HX := Lib.hid (HN.out hpe)
        clear HS HN hpe hown
        go_wp2_with fail
        refine HA.mono ?_
        rintro e w5 ⟨rfl, B5⟩
        have hB5 := hB.trans (B5.mono hB.size)
        go_wp2_with fail
        go_ret2
        exact ⟨.inr ⟨HX.out, rfl⟩, hB5⟩
      · have HX := Lib.hid (HS.out P hpe)
        clear HS HN hpe
        go_wp2_with fail
        refine HA.mono ?_
        rintro e w5 ⟨rfl, B5⟩
        have hB5 := hB.trans (B5.mono hB.size)
        have hown5 := own_keep hown B5
        have hz5 := hB5.size
        clear hown hB B5 HA c0 p0
        go_wp2_with (at_builtin; refine wpList_append_own _ rfl _ _ 53 rfl w.heap.size 3 i0 _ 1 8 Tryz.underlying53 hi hz0 hz1 hz2 rfl (by decide) _ _ _ rfl (hown5.alloc _) ⟨w5.heap.size, 0, none⟩ 1 1 [.int .i64 P] rfl rfl (oneN_new _ _ _) (oneN_cell _) (by unfold maxLen; omega) (by omega) (by simp; omega) ?_; intro v' w8 hown' hgrow _)
        have B8 : Below w.heap.size w w8 := (hB5.alloc hB5.size _).grown hgrow (by simp; omega) (fun r e => (hown5.lt r e).1)
        have own1 : w8.ownsRow w.heap.size 3 1 v' (k + 1) (nCells (ps ++ [P])) := by
          rw [nCells_snoc]
          exact hown'
        clear hgrow hown' hown5 hB5
        go_wp2_with fail
        go_roundw
        case rel => exact ⟨k + 1, ps ++ [P], by omega, by go_num, own1, by simp [hlk], B8, HX⟩
        case measure => simp [intOf]; omega
    · obtain rfl : k = n := by omega
      have HX : Hid (allO (placeO l) ws = some ps) := by
        have e := HO.out
        rw [List.take_of_length_le (by rw [HL.out]; exact Nat.le_refl _)] at e
        exact e
      have HE := HL
      have HOw := Lib.hid hown
      clear h HO HL hV hR hown
      go_wp2_with fail
      go_ret2
      exact ⟨.inl ⟨ps, HX.out, _, rfl, by rw [HE.out]; exact HOw.out, by rw [HE.out]; exact hlk⟩, hB⟩
/-- what is told of words: their matchers, or that one is none's -/
def MtsOut (w w0 : World) (e : Ending) (ws : List (List UInt8)) : Prop := (∃ ms, allO askedB ws = some ms ∧ ∃ v, e = .returned (.tuple #[v, .bool true]) ∧ w.ownsRow w0.heap.size 59 3 v ws.length (cellsM ms) ∧ ms.length = ws.length) ∨ (allO askedB ws = none ∧ e = .returned (.tuple #[.slice none 0 0, .bool false]))
set_option maxRecDepth 100000 in
set_option maxHeartbeats 6400000 in
theorem matchers_c (oa : Option Addr) (n cap : Nat) (ws : List (List UInt8)) (w : World) (h : Ts w oa n cap (ws.map tx)) (hn : n ≤ 100000) (hz : ∀ v ∈ ws, v.length ≤ 100000) :
    Calls Tryz.prog 62 #[.slice oa n cap] w fun e w' => MtsOut w' w e ws ∧ Below w.heap.size w w' := by
  have hl : ws.length = n := by rw [← h.len, List.length_map]
  have hr := h.room
  have HZ := Lib.hid hz
  have HL := Lib.hid hl
  clear hz hl
  have own0 : w.ownsRow w.heap.size 59 3 (.slice none 0 0) 0 (cellsM ([] : List M3)) := World.ownsRow_nil _ _ _ _
  go_enter Tryz.func62, Tryz.ntmps62
  go_wp2_with fail
  go_loopw [4, 11] (fun s4 s11 wr => ∃ (k : Nat) (l : List M3), k ≤ n ∧ s11 = .int .i64 k ∧ wr.ownsRow w.heap.size 59 3 s4 k (cellsM l) ∧ l.length = k ∧ Below w.heap.size w wr ∧ Hid (allO askedB (ws.take k) = some l)) (fun _ s11 _ => n - (intOf s11).toNat)
  case atStart => exact ⟨0, [], Nat.zero_le _, rfl, own0, rfl, Below.refl _ _, rfl⟩
  case round =>
    obtain ⟨k, l, hk, rfl, hown, hlk, hB, HO⟩ := hrel
    clear own0
    by_cases hlt : k < n
    · obtain ⟨g, o, rfl, c0⟩ := (h.below hB (Nat.le_refl _)).cell k hlt
      have hkl : k < ws.length := by rw [HL.out]; exact hlt
      rw [ws_at ws k hkl] at c0
      have hzk : (tx (ws.getD k [])).size ≤ 100000 := by rw [tx_size]; exact HZ.out _ (ws_mem ws k hkl)
      have HA := fun w => asked_word (tx (ws.getD k [])) w (by omega)
      rw [show bs (tx (ws.getD k [])) = ws.getD k [] from tx_data _] at HA
      have HS : Hid (∀ x, askedB (ws.getD k []) = some x → allO askedB (ws.take (k + 1)) = some (l ++ [x])) := fun x hx => by
        rw [ws_next ws k hkl, allO_snoc, HO.out]
        show (askedB (ws.getD k [])).map _ = _
        rw [hx]
        rfl
      have HN : Hid (askedB (ws.getD k []) = none → allO askedB ws = none) := allO_none (ws_mem ws k hkl)
      generalize tx (ws.getD k []) = y at *
      generalize ws.getD k [] = v at *
      clear h HZ HO HL hkl
      go_wp2_with fail
      refine (HA _).mono ?_
      rintro e w5 ⟨⟨x, hx, rfl⟩ | ⟨hx, rfl⟩, B5⟩
      · have HX := Lib.hid (HS.out x hx)
        have hB5 := hB.trans (B5.mono hB.size)
        have hown5 := own_keep hown B5
        have hz5 := hB5.size
        obtain ⟨q, s, t⟩ := x
        clear HS HN hx hown hB B5 HA c0
        dsimp only [aggM]
        have hBa := hB5.alloc hz5 (.cells #[.int .i64 q, .string s, .string t] 59)
        have howna := hown5.alloc (.cells #[.int .i64 q, .string s, .string t] 59)
        have d0 : (w5.alloc (.cells #[.int .i64 q, .string s, .string t] 59)).cell? ⟨w5.heap.size, 0, none⟩ = some (.int .i64 q) := by simp
        have d1 : (w5.alloc (.cells #[.int .i64 q, .string s, .string t] 59)).cell? ⟨w5.heap.size, 1, none⟩ = some (.string s) := by simp
        have d2 : (w5.alloc (.cells #[.int .i64 q, .string s, .string t] 59)).cell? ⟨w5.heap.size, 2, none⟩ = some (.string t) := by simp
        go_upto_region 8 with fail
        generalize w5.alloc (.cells #[.int .i64 q, .string s, .string t] 59) = w7 at *
        generalize w5.heap.size = G7 at *
        have hz7 := hBa.size
        have hone := Ms.one w7 (q, s, t)
        clear hown5 hB5
        go_wp2_with (first | (at_builtin; refine wpList_append_ms _ rfl (.tmp 22) (.tmp 24) rfl w.heap.size rfl (howna.alloc _) rfl hone (by omega) (by simp <;> omega) ?_; intro v1 w8 own1 hg1; have B8 : Below w.heap.size w w8 := (hBa.alloc hz7 _).grown hg1 (by simp <;> omega) (fun r e => (howna.lt r e).1)))
        rw [← cellsM_append] at own1
        clear hone hg1 howna hBa
        go_wp2_with fail
        go_roundw
        case rel => exact ⟨k + 1, l ++ [(q, s, t)], by omega, by go_num, own1, by simp [hlk], B8, HX⟩
        case measure => simp [intOf]; omega
      · have HX := Lib.hid (HN.out hx)
        have hB5 := hB.trans (B5.mono hB.size)
        clear HS HN hx hown hB HA c0
        go_wp2_with fail
        go_ret2
        exact ⟨.inr ⟨HX.out, rfl⟩, hB5.alloc hB5.size _⟩
    · obtain rfl : k = n := by omega
      have HX : Hid (allO askedB ws = some l) := by
        have e := HO.out
        rw [List.take_of_length_le (by rw [HL.out]; exact Nat.le_refl _)] at e
        exact e
      have HOw := Lib.hid hown
      have HE := HL
      clear h HZ HO HL hown
      go_wp2_with fail
      go_ret2
      exact ⟨.inl ⟨l, HX.out, _, rfl, by rw [HE.out]; exact HOw.out, by rw [HE.out]; exact hlk⟩, hB⟩
end Go.Proofs.YtbihaoibmkdfjaaGreatDoor
namespace Go.Proofs.YtbihaoibmkdfjaaGreatDoor
open Go.RowKit Go.Shelf
set_option linter.unusedVariables false

theorem Vals.nineS {w : World} {A : Nat} {T : TypeId} {x0 x1 x2 x3 x4 x5 x6 x7 x8 : Value} (h : Vals w A T #[x0, x1, x2, x3, x4, x5, x6, x7, x8]) (y0 y1 y2 y3 y4 y5 y6 y7 y8 : Value) :
    Vals (((((((((w.setCell ⟨A, 0, none⟩ y0).setCell ⟨A, 1, none⟩ y1).setCell ⟨A, 2, none⟩ y2).setCell ⟨A, 3, none⟩ y3).setCell ⟨A, 4, none⟩ y4).setCell ⟨A, 5, none⟩ y5).setCell ⟨A, 6, none⟩ y6).setCell ⟨A, 7, none⟩ y7).setCell ⟨A, 8, none⟩ y8) A T #[y0, y1, y2, y3, y4, y5, y6, y7, y8] := by
  have h1 : Vals (w.setCell ⟨A, 0, none⟩ y0) A T #[y0, x1, x2, x3, x4, x5, x6, x7, x8] := by simpa using h.set 0 y0
  have h2 : Vals ((w.setCell ⟨A, 0, none⟩ y0).setCell ⟨A, 1, none⟩ y1) A T #[y0, y1, x2, x3, x4, x5, x6, x7, x8] := by simpa using h1.set 1 y1
  have h3 : Vals (((w.setCell ⟨A, 0, none⟩ y0).setCell ⟨A, 1, none⟩ y1).setCell ⟨A, 2, none⟩ y2) A T #[y0, y1, y2, x3, x4, x5, x6, x7, x8] := by simpa using h2.set 2 y2
  have h4 : Vals ((((w.setCell ⟨A, 0, none⟩ y0).setCell ⟨A, 1, none⟩ y1).setCell ⟨A, 2, none⟩ y2).setCell ⟨A, 3, none⟩ y3) A T #[y0, y1, y2, y3, x4, x5, x6, x7, x8] := by simpa using h3.set 3 y3
  have h5 : Vals (((((w.setCell ⟨A, 0, none⟩ y0).setCell ⟨A, 1, none⟩ y1).setCell ⟨A, 2, none⟩ y2).setCell ⟨A, 3, none⟩ y3).setCell ⟨A, 4, none⟩ y4) A T #[y0, y1, y2, y3, y4, x5, x6, x7, x8] := by simpa using h4.set 4 y4
  have h6 : Vals ((((((w.setCell ⟨A, 0, none⟩ y0).setCell ⟨A, 1, none⟩ y1).setCell ⟨A, 2, none⟩ y2).setCell ⟨A, 3, none⟩ y3).setCell ⟨A, 4, none⟩ y4).setCell ⟨A, 5, none⟩ y5) A T #[y0, y1, y2, y3, y4, y5, x6, x7, x8] := by simpa using h5.set 5 y5
  have h7 : Vals (((((((w.setCell ⟨A, 0, none⟩ y0).setCell ⟨A, 1, none⟩ y1).setCell ⟨A, 2, none⟩ y2).setCell ⟨A, 3, none⟩ y3).setCell ⟨A, 4, none⟩ y4).setCell ⟨A, 5, none⟩ y5).setCell ⟨A, 6, none⟩ y6) A T #[y0, y1, y2, y3, y4, y5, y6, x7, x8] := by simpa using h6.set 6 y6
  have h8 : Vals ((((((((w.setCell ⟨A, 0, none⟩ y0).setCell ⟨A, 1, none⟩ y1).setCell ⟨A, 2, none⟩ y2).setCell ⟨A, 3, none⟩ y3).setCell ⟨A, 4, none⟩ y4).setCell ⟨A, 5, none⟩ y5).setCell ⟨A, 6, none⟩ y6).setCell ⟨A, 7, none⟩ y7) A T #[y0, y1, y2, y3, y4, y5, y6, y7, x8] := by simpa using h7.set 7 y7
  have h9 : Vals (((((((((w.setCell ⟨A, 0, none⟩ y0).setCell ⟨A, 1, none⟩ y1).setCell ⟨A, 2, none⟩ y2).setCell ⟨A, 3, none⟩ y3).setCell ⟨A, 4, none⟩ y4).setCell ⟨A, 5, none⟩ y5).setCell ⟨A, 6, none⟩ y6).setCell ⟨A, 7, none⟩ y7).setCell ⟨A, 8, none⟩ y8) A T #[y0, y1, y2, y3, y4, y5, y6, y7, y8] := by simpa using h8.set 8 y8
  exact h9
theorem below_nineS {B : Nat} {a w : World} (h : Below B a w) {A : Nat} (hA : B ≤ A) (y0 y1 y2 y3 y4 y5 y6 y7 y8 : Value) : Below B a (((((((((w.setCell ⟨A, 0, none⟩ y0).setCell ⟨A, 1, none⟩ y1).setCell ⟨A, 2, none⟩ y2).setCell ⟨A, 3, none⟩ y3).setCell ⟨A, 4, none⟩ y4).setCell ⟨A, 5, none⟩ y5).setCell ⟨A, 6, none⟩ y6).setCell ⟨A, 7, none⟩ y7).setCell ⟨A, 8, none⟩ y8) :=
  ((((((((h.setCell (p := ⟨A, 0, none⟩) hA _).setCell (p := ⟨A, 1, none⟩) hA _).setCell (p := ⟨A, 2, none⟩) hA _).setCell (p := ⟨A, 3, none⟩) hA _).setCell (p := ⟨A, 4, none⟩) hA _).setCell (p := ⟨A, 5, none⟩) hA _).setCell (p := ⟨A, 6, none⟩) hA _).setCell (p := ⟨A, 7, none⟩) hA _).setCell (p := ⟨A, 8, none⟩) hA _
theorem Vals.drew {w : World} {A : Nat} {T : TypeId} {xs : Array Value} (h : Vals w A T xs) : Vals w.drew A T xs := h
theorem ret1R {fn : Func} {p : Tmp} (h : fn.results = #[.cell p 52]) {tmps : Array Value} {w : World} {A : Nat} {r : R9} (hp : tmps.getD p undef = .pointer (some ⟨A, 0, none⟩)) (hV : Vals w A 52 (vR r)) :
    (results fn tmps).run Tryz.prog w = .ok (aggR r) w := by
  simp only [results, h]
  simp [Sem.run_bind, Result.andThen, asAddr]
  have hp' : tmps[p]?.getD undef = .pointer (some ⟨A, 0, none⟩) := by simpa using hp
  rw [hp']
  simp [run_loadVar_row w A _ 52 _ _ _ hV Tryz.underlying52 rfl (by kernel_rfl)]
set_option maxRecDepth 100000 in
set_option maxHeartbeats 3200000 in
theorem rcvOf_c (y : ByteArray) (on : Option Addr) (cn : Nat) (ns : List Nat) (w : World) (h : Ns w on 8 cn (ns.map fun n : Nat => (n : Int))) :
    Calls Tryz.prog 59 #[.string y, .slice on 8 cn] w fun e w' => e = .returned (aggR ⟨y, ((ns.getD 0 0 : Nat) : Int), ((ns.getD 1 0 : Nat) : Int), ((ns.getD 2 0 : Nat) : Int), ((ns.getD 3 0 : Nat) : Int), ((ns.getD 4 0 : Nat) : Int), ((ns.getD 5 0 : Nat) : Int), ((ns.getD 6 0 : Nat) : Int), ((ns.getD 7 0 : Nat) : Int)⟩) ∧ Below w.heap.size w w' := by
  have hcn := h.room
  have B0 := below_alloc w (.cells #[.string ⟨#[]⟩, .int .i64 0, .int .i64 0, .int .i64 0, .int .i64 0, .int .i64 0, .int .i64 0, .int .i64 0, .int .i64 0] 52)
  have V0 := Vals.new w 52 #[.string ⟨#[]⟩, .int .i64 0, .int .i64 0, .int .i64 0, .int .i64 0, .int .i64 0, .int .i64 0, .int .i64 0, .int .i64 0]
  have h1 := h.below B0 (Nat.le_refl _)
  have hce : ∀ i, i < 8 → ∃ g o, on = some ⟨g, o, none⟩ ∧ (w.alloc (.cells #[.string ⟨#[]⟩, .int .i64 0, .int .i64 0, .int .i64 0, .int .i64 0, .int .i64 0, .int .i64 0, .int .i64 0, .int .i64 0] 52)).cell? ⟨g, o + i, none⟩ = some (.int .i64 ((ns.getD i 0 : Nat) : Int)) := fun i hi => by
    obtain ⟨g, o, e, h⟩ := h1.cell i hi
    refine ⟨g, o, e, ?_⟩
    rw [h, List.getD_eq_getElem?_getD, List.getElem?_map, List.getD_eq_getElem?_getD]
    cases ns[i]? <;> rfl
  obtain ⟨gn, on2, rfl, e0⟩ := hce 0 (by omega)
  obtain ⟨_, _, ex1, e1⟩ := hce 1 (by omega)
  cases ex1
  obtain ⟨_, _, ex2, e2⟩ := hce 2 (by omega)
  cases ex2
  obtain ⟨_, _, ex3, e3⟩ := hce 3 (by omega)
  cases ex3
  obtain ⟨_, _, ex4, e4⟩ := hce 4 (by omega)
  cases ex4
  obtain ⟨_, _, ex5, e5⟩ := hce 5 (by omega)
  cases ex5
  obtain ⟨_, _, ex6, e6⟩ := hce 6 (by omega)
  cases ex6
  obtain ⟨_, _, ex7, e7⟩ := hce 7 (by omega)
  cases ex7
  rw [Nat.add_zero] at e0
  generalize ((ns.getD 0 0 : Nat) : Int) = a0 at *
  generalize ((ns.getD 1 0 : Nat) : Int) = a1 at *
  generalize ((ns.getD 2 0 : Nat) : Int) = a2 at *
  generalize ((ns.getD 3 0 : Nat) : Int) = a3 at *
  generalize ((ns.getD 4 0 : Nat) : Int) = a4 at *
  generalize ((ns.getD 5 0 : Nat) : Int) = a5 at *
  generalize ((ns.getD 6 0 : Nat) : Int) = a6 at *
  generalize ((ns.getD 7 0 : Nat) : Int) = a7 at *
  clear h h1 hce
  dsimp only [aggR]
  go_enter Tryz.func59, Tryz.ntmps59
  go_upto_region 1 with fail
  obtain ⟨A, hA⟩ : ∃ A, A = w.heap.size := ⟨_, rfl⟩
  rw [← hA] at V0 ⊢
  have hAw : w.heap.size ≤ A := by omega
  clear hA
  generalize w.alloc (.cells #[.string ⟨#[]⟩, .int .i64 0, .int .i64 0, .int .i64 0, .int .i64 0, .int .i64 0, .int .i64 0, .int .i64 0, .int .i64 0] 52) = w1 at *
  have z0 := V0.free 0
  have z1 := V0.free 1
  have z2 := V0.free 2
  have z3 := V0.free 3
  have z4 := V0.free 4
  have z5 := V0.free 5
  have z6 := V0.free 6
  have z7 := V0.free 7
  have z8 := V0.free 8
  have d0 : w1.cell? ⟨A, 0, none⟩ = some (.string ⟨#[]⟩) := V0.cell 0
  have d1 : w1.cell? ⟨A, 1, none⟩ = some (.int .i64 0) := V0.cell 1
  have d2 : w1.cell? ⟨A, 2, none⟩ = some (.int .i64 0) := V0.cell 2
  have d3 : w1.cell? ⟨A, 3, none⟩ = some (.int .i64 0) := V0.cell 3
  have d4 : w1.cell? ⟨A, 4, none⟩ = some (.int .i64 0) := V0.cell 4
  have d5 : w1.cell? ⟨A, 5, none⟩ = some (.int .i64 0) := V0.cell 5
  have d6 : w1.cell? ⟨A, 6, none⟩ = some (.int .i64 0) := V0.cell 6
  have d7 : w1.cell? ⟨A, 7, none⟩ = some (.int .i64 0) := V0.cell 7
  have d8 : w1.cell? ⟨A, 8, none⟩ = some (.int .i64 0) := V0.cell 8
  go_still_tail 27, (by kernel_rfl)
  change wpList _ _ _ _ _ (World.drew _)
  go_wp2
  have V1 := V0.nineS (.string y) (.int .i64 a0) (.int .i64 a1) (.int .i64 a2) (.int .i64 a3) (.int .i64 a4) (.int .i64 a5) (.int .i64 a6) (.int .i64 a7)
  have B1 := (below_nineS B0 hAw (.string y) (.int .i64 a0) (.int .i64 a1) (.int .i64 a2) (.int .i64 a3) (.int .i64 a4) (.int .i64 a5) (.int .i64 a6) (.int .i64 a7)).drew
  have V2 := V1.drew
  clear V0 V1 B0 e0 e1 e2 e3 e4 e5 e6 e7 z0 z1 z2 z3 z4 z5 z6 z7 z8 d0 d1 d2 d3 d4 d5 d6 d7 d8
  generalize (((((((((w1.setCell ⟨A, 0, none⟩ (.string y)).setCell ⟨A, 1, none⟩ (.int .i64 a0)).setCell ⟨A, 2, none⟩ (.int .i64 a1)).setCell ⟨A, 3, none⟩ (.int .i64 a2)).setCell ⟨A, 4, none⟩ (.int .i64 a3)).setCell ⟨A, 5, none⟩ (.int .i64 a4)).setCell ⟨A, 6, none⟩ (.int .i64 a5)).setCell ⟨A, 7, none⟩ (.int .i64 a6)).setCell ⟨A, 8, none⟩ (.int .i64 a7)).drew = w2 at *
  exact bodyPost_ret (ret1R rfl rfl V2) rfl ⟨rfl, B1⟩
/-- where a word stands first -/
def FirstAt (ws : List (List UInt8)) (v : List UInt8) (r : Int) : Prop := (∃ k : Nat, r = (k : Int) ∧ k < ws.length ∧ ws.getD k [] = v ∧ ∀ i, i < k → ws.getD i [] ≠ v) ∨ (r = -1 ∧ ∀ i, i < ws.length → ws.getD i [] ≠ v)
set_option maxRecDepth 100000 in
set_option maxHeartbeats 1600000 in
theorem idxT_c (v : List UInt8) (oa : Option Addr) (n cap : Nat) (ws : List (List UInt8)) (w : World) (h : Ts w oa n cap (ws.map tx)) (hn : n ≤ 100000) :
    Calls Tryz.prog 60 #[.slice oa n cap, .string (tx v)] w fun e w' => (∃ r, e = .returned (.int .i64 r) ∧ FirstAt ws v r) ∧ w = w' := by
  have hl : ws.length = n := by rw [← h.len, List.length_map]
  have HL := Lib.hid hl
  have hr := h.room
  clear hl
  have HV := Lib.hid (rfl : tx v = tx v)
  obtain ⟨y, hy⟩ : ∃ y, y = tx v := ⟨_, rfl⟩
  rw [← hy]
  have HY := Lib.hid hy
  clear hy HV
  go_enter Tryz.func60, Tryz.ntmps60
  go_wp2_with fail
  go_loopw [5, 8] (fun _ s8 wr => ∃ k : Nat, k ≤ n ∧ s8 = .int .i64 k ∧ w = wr ∧ Hid (∀ i, i < k → ws.getD i [] ≠ v)) (fun _ s8 _ => n - (intOf s8).toNat)
  case atStart => exact ⟨0, Nat.zero_le _, rfl, rfl, fun i hi => absurd hi (by omega)⟩
  case round =>
    obtain ⟨k, hk, rfl, rfl, HA⟩ := hrel
    by_cases hlt : k < n
    · obtain ⟨g, o, rfl, c0⟩ := h.cell k hlt
      have hkl : k < ws.length := by rw [HL.out]; exact hlt
      rw [ws_at ws k hkl] at c0
      have HQ : Hid (ws.getD k [] ≠ v → ∀ i, i < k + 1 → ws.getD i [] ≠ v) := fun e i hi => by
        by_cases e2 : i = k
        · subst e2; exact e
        · exact HA.out i (by omega)
      by_cases he : ws.getD k [] = v
      · have HX : Hid (FirstAt ws v (k : Int)) := .inl ⟨k, rfl, hkl, he, HA.out⟩
        have hq : (y.toList == (tx (ws.getD k [])).toList) = true := by rw [HY.out, he]; simp
        clear HQ he h HA hkl HL HY
        generalize tx (ws.getD k []) = z at *
        go_wp2_with fail
        go_ret
        exact ⟨⟨_, rfl, HX.out⟩, rfl⟩
      · have HX := Lib.hid (HQ.out he)
        have hq : (y.toList == (tx (ws.getD k [])).toList) = false := by
          rw [HY.out]
          have : (tx v).toList ≠ (tx (ws.getD k [])).toList := fun e => he (tx_inj (toList_inj e)).symm
          simpa using this
        clear HQ he h HA hkl HL HY
        generalize tx (ws.getD k []) = z at *
        go_wp2_with fail
        go_roundw
        case rel => exact ⟨k + 1, by omega, by go_num, trivial, HX⟩
        case measure => simp [intOf]; omega
    · obtain rfl : k = n := by omega
      have HX : Hid (FirstAt ws v (-1)) := .inr ⟨rfl, fun i hi => HA.out i (by rw [HL.out] at hi; exact hi)⟩
      clear h HA
      go_wp2_with fail
      go_ret
      exact ⟨⟨_, rfl, HX.out⟩, rfl⟩
end Go.Proofs.YtbihaoibmkdfjaaGreatDoor
