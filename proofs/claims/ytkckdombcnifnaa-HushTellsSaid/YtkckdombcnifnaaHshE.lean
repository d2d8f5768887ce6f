/-
  slices.DeleteFunc at hushes: those of which it is not told, in their own row.
-/
import Derived.Test.YtkckdombcnifnaaHshD
namespace Go.Proofs.Ytkckdombcnifnaa
open Go.RowKit Go.Shelf
set_option linter.unusedVariables false

/-- what a function tells of the hushes of a row, whatever becomes of the row itself -/
def TellsG (w : World) (row : Option Nat) (l : List H5) (g : Nat) (cb : Array Value) (p : H5 → Bool) : Prop := ∀ (x : H5) (b : Bool) (W : World), x ∈ l → b = p x → w.grownBy W row → Calls Try.prog g (#[aggH x] ++ cb) W fun e w' => e = .returned (.bool b) ∧ Below W.heap.size W w'
theorem TellsG.told {w : World} {row : Option Nat} {l : List H5} {g : Nat} {cb : Array Value} {p : H5 → Bool} (h : TellsG w row l g cb p) : TellsH w l g cb p := fun x b W hx hb hB => h x b W hx hb (grown_of_below hB row)
/-- how far it has come: up to i stand those that stay, from j on all as they were -/
structure DelInv (p : H5 → Bool) (l dk : List H5) (i j : Nat) : Prop where
  len : dk.length = l.length
  lt : i < j
  kept : dk.take i = (l.take j).filter fun x => !p x
  rest : dk.drop j = l.drop j
theorem DelInv.at {p : H5 → Bool} {l dk : List H5} {i j : Nat} (h : DelInv p l dk i j) (hj : j < l.length) : dk.getD j zH = l.getD j zH := by
  have e := congrArg (fun m => m[0]?) h.rest
  simp only [List.getElem?_drop, Nat.add_zero] at e
  rw [List.getD_eq_getElem?_getD, List.getD_eq_getElem?_getD, e]
theorem DelInv.skip {p : H5 → Bool} {l dk : List H5} {i j : Nat} (h : DelInv p l dk i j) (hj : j < l.length) (hp : p (l.getD j zH) = true) : DelInv p l dk i (j + 1) := by
  refine ⟨h.len, by have := h.lt; omega, ?_, ?_⟩
  · rw [takeH_next l j hj, List.filter_append, h.kept]
    generalize l.getD j zH = x at *
    simp [hp]
  · rw [← List.drop_drop, ← List.drop_drop, h.rest]
theorem DelInv.keep {p : H5 → Bool} {l dk : List H5} {i j : Nat} (h : DelInv p l dk i j) (hj : j < l.length) (hp : p (l.getD j zH) = false) : DelInv p l (dk.set i (l.getD j zH)) (i + 1) (j + 1) := by
  have hl := h.len
  have hlt := h.lt
  refine ⟨by rw [List.length_set, hl], by omega, ?_, ?_⟩
  · rw [takeH_next l j hj, List.filter_append, ← h.kept]
    simp only [List.filter_cons, hp, Bool.not_false, if_true, List.filter_nil]
    rw [List.take_succ_eq_append_getElem (by rw [List.length_set]; omega), List.take_set, List.set_eq_of_length_le (by simp <;> omega), List.getElem_set_self]
  · rw [List.drop_set_of_lt (by omega), ← List.drop_drop, ← List.drop_drop, h.rest]
theorem filter_none (p : H5 → Bool) (l : List H5) (h : l.any p = false) : (l.filter fun x => !p x) = l := by
  rw [List.filter_eq_self]
  intro x hx
  have := List.any_eq_false.1 h x hx
  simpa using this
theorem DelInv.start {p : H5 → Bool} {l : List H5} {k : Nat} (hk : k < l.length) (h0 : (l.take k).any p = false) (h1 : p (l.getD k zH) = true) : DelInv p l l k (k + 1) := by
  refine ⟨rfl, by omega, ?_, rfl⟩
  rw [takeH_next l k hk, List.filter_append, filter_none p _ h0]
  generalize l.getD k zH = x at *
  simp [h1]
set_option maxRecDepth 100000 in
set_option maxHeartbeats 6400000 in
theorem delH_any (g : Nat) (cb : Array Value) (p : H5 → Bool) (base : Nat) (v : Value) (n : Nat) (l : List H5) (w : World) (hl : l.length = n) (hown : w.ownsRow base 25 3 v n (cellsH l)) (hbase : base ≤ w.heap.size) (hn : n ≤ 1000000) (hp : TellsG w v.ownBlock l g cb p) (eg : ∀ args w, (callFunc g args).run Try.prog w = .ok (.enter g args) w) :
    Calls Try.prog 41 #[v, .func (.func g) #[] cb] w fun e w' => (∃ v', e = .returned v' ∧ w'.ownsRow base 25 3 v' (l.filter fun x => !p x).length (cellsH (l.filter fun x => !p x))) ∧ w.grownBy w' v.ownBlock := by
  obtain ⟨oa, cap, rfl, hH, hm⟩ := Hs.of_own hl hown
  have HI := idxH_any g cb p oa n cap l w hH (by omega) hp.told eg
  have hroom := hH.room
  by_cases hany : l.any p = false
  · have HF : Hid ((l.filter fun x => !p x) = l) := filter_none p l hany
    have HN : Hid (∀ r, FirstH l p r → r = -1) := fun r h => by
      rcases h with ⟨h, _⟩ | ⟨k, hk, _, _, h⟩
      · exact h
      · rw [anyH_hit p l k hk h] at hany; cases hany
    have HO := Lib.hid hown
    clear hany hp hH hown
    go_enter Try.func41, Try.ntmps41
    go_wp2_with fail
    refine HI.mono ?_
    rintro e w1 ⟨⟨r, rfl, hr⟩, B1⟩
    obtain rfl := HN.out r hr
    clear hr
    go_wp2_with fail
    go_ret
    rw [HF.out]
    exact ⟨⟨_, rfl, by rw [hl]; exact own_keep HO.out B1⟩, grown_of_below B1 _⟩
  · have hn0 : 0 < n := by
      rcases Nat.eq_zero_or_pos n with h0 | h0
      · have : l = [] := List.eq_nil_of_length_eq_zero (by omega)
        subst this
        exact absurd rfl hany
      · exact h0
    obtain ⟨g0, rfl, hbg, hgl, hfz⟩ := frozenH hown hn0
    have HN : Hid (∀ r, FirstH l p r → ∃ k : Nat, k < n ∧ r = (k : Int) ∧ DelInv p l l k (k + 1)) := fun r h => by
      rcases h with ⟨_, h⟩ | ⟨k, hk, h1, h2, h3⟩
      · exact absurd h hany
      · exact ⟨k, by omega, h1, DelInv.start hk h2 h3⟩
    have HP : Hid (∀ (x : H5) (b : Bool) (W : World), x ∈ l → b = p x → w.grownBy W (some g0) → Calls Try.prog g (#[aggH x] ++ cb) W fun e w' => e = .returned (.bool b) ∧ Below W.heap.size W w') := hp
    clear hany hp hH hfz
    go_enter Try.func41, Try.ntmps41
    go_wp2_with fail
    refine HI.mono ?_
    rintro e w1 ⟨⟨r, rfl, hr⟩, B1⟩
    obtain ⟨k0, hk0, rfl, hD0⟩ := HN.out r hr
    have hne1 : ((k0 : Int) == -1) = false := beq_eq_false_iff_ne.2 (by omega)
    have own1 := own_keep hown B1
    have G1 := grown_of_below B1 (some g0)
    have HD0 := Lib.hid hD0
    clear hr hD0 hown B1 HN
    go_wp2_with fail
    go_loopw [5, 6, 7] (fun s5 s6 _ wr => ∃ (i j : Nat) (dk : List H5), s5 = .int .i64 i ∧ s6 = .int .i64 j ∧ j ≤ n ∧ w.grownBy wr (some g0) ∧ wr.ownsRow base 25 3 (.slice (some ⟨g0, 0, none⟩) n cap) n (cellsH dk) ∧ Hid (DelInv p l dk i j)) (fun _ s6 _ _ => n - (intOf s6).toNat)
    case atStart => exact ⟨k0, k0 + 1, l, rfl, by go_num, by omega, G1, own1, HD0⟩
    case round =>
      obtain ⟨i, j, dk, rfl, rfl, hj, G, own, HD⟩ := hrel
      have hij := HD.out.lt
      have hdl := HD.out.len
      obtain ⟨_, e0, _, hgl2, hfz⟩ := frozenH own hn0
      cases e0
      obtain ⟨_, _, e, hH, _⟩ := Hs.of_own (by omega) own
      cases e
      obtain ⟨gi, oi, e, i0, i1, i2⟩ := hH.cell i (by omega)
      cases e
      rw [Nat.zero_add] at i0 i1 i2
      have HO := Lib.hid own
      have HG := Lib.hid G
      have hgn : g0 < wr.heap.size := hgl2
      have hnc : i < cap := by have := hH.room; omega
      by_cases hlt : j < n
      · obtain ⟨gj, oj, e, c0, c1, c2⟩ := hH.cell j hlt
        cases e
        rw [Nat.zero_add] at c0 c1 c2
        rw [HD.out.at (by omega)] at c0 c1 c2
        have HX := Lib.hid (HD.out.skip (by omega))
        have HY := Lib.hid (HD.out.keep (by omega))
        have hm := getD_mem l j (by omega)
        have HS := fun x => own_setH (l := dk) (by omega) own i (by omega) x
        generalize l.getD j zH = x at *
        generalize dk.getD i zH = y at *
        have BA := below_alloc wr (.cells (vH x) 25)
        have G1 : w.grownBy (wr.alloc (.cells (vH x) 25)) (some g0) := G.trans (grown_of_below BA _)
        have own1 := own_keep own BA
        have VB := Vals.new wr 25 (vH x)
        have hs1 : (wr.alloc (.cells (vH x) 25)).heap.size = wr.heap.size + 1 := by simp
        cases hb : p x with
        | false =>
          have HT := HP.out x false _ hm hb.symm G1
          have HZ := Lib.hid (HY.out hb)
          obtain ⟨a, s, pa, q, u, ms⟩ := x
          dsimp only [aggH, vH] at *
          have own3 := own1
          have G3 := G1
          clear HX HY hb hm own G hH HD HS
          clear own1 G1 HI
          go_wp2_with fail
          generalize wr.alloc (.cells #[.int .i64 a, .int .i64 s, .slice pa q u] 25) = w3 at *
          refine HT.mono ?_
          rintro e w2 ⟨rfl, B2⟩
          have own2 := own_keep own3 B2
          have G2 := G3.trans (grown_of_below B2 _)
          have V2 := VB.keep B2 (Nat.le_refl _)
          obtain ⟨_, e0, _, hgl3, hfz2⟩ := frozenH own2 hn0
          cases e0
          have d0 : w2.cell? ⟨wr.heap.size, 0, none⟩ = some (.int .i64 a) := V2.cell 0
          have d1 : w2.cell? ⟨wr.heap.size, 1, none⟩ = some (.int .i64 s) := V2.cell 1
          have d2 : w2.cell? ⟨wr.heap.size, 2, none⟩ = some (.slice pa q u) := V2.cell 2
          obtain ⟨_, _, e, hH2, _⟩ := Hs.of_own (by omega) own2
          cases e
          obtain ⟨gi, oi, e, j0, j1, j2⟩ := hH2.cell i (by omega)
          cases e
          rw [Nat.zero_add] at j0 j1 j2
          have own4 := own_setH (l := dk) (by omega) own2 i (by omega) ⟨a, s, pa, q, u, ms⟩
          have G4 := grown_set (grown_set (grown_set G2 (i * 3) (.int .i64 a)) (i * 3 + 1) (.int .i64 s)) (i * 3 + 2) (.slice pa q u)
          have HO4 := Lib.hid own4
          have HG4 := Lib.hid G4
          clear own4 G4 own3 G3 own2 G2 V2 VB B2 HT hH2
          go_wp2_with fail
          go_roundw
          case rel => exact ⟨i + 1, j + 1, _, by go_num, by go_num, by omega, HG4.out, HO4.out, HZ⟩
          case measure => simp [intOf]; omega
        | true =>
          have HT := HP.out x true _ hm hb.symm G1
          have HZ := Lib.hid (HX.out hb)
          obtain ⟨a, s, pa, q, u, ms⟩ := x
          dsimp only [aggH, vH] at *
          have own3 := own1
          have G3 := G1
          clear HX HY hb hm own G hH HD HS
          clear own1 G1 HI
          go_wp2_with fail
          generalize wr.alloc (.cells #[.int .i64 a, .int .i64 s, .slice pa q u] 25) = w3 at *
          refine HT.mono ?_
          rintro e w2 ⟨rfl, B2⟩
          have own2 := own_keep own3 B2
          have G2 := G3.trans (grown_of_below B2 _)
          clear own3 G3 VB B2 HT
          go_wp2_with fail
          go_roundw
          case rel => exact ⟨i, j + 1, _, rfl, by go_num, by omega, G2, own2, HZ⟩
          case measure => simp [intOf]; omega
      · obtain rfl : j = n := by omega
        have HK : Hid (dk.take i = l.filter fun x => !p x) := by
          have := HD.out.kept
          rw [List.take_of_length_le (i := j) (by omega)] at this
          exact this
        have hlen : i = (l.filter fun x => !p x).length := by
          rw [← HK.out, List.length_take]
          omega
        obtain ⟨vs, hcl⟩ := run_clearH wr g0 (i * 3) (j - i) (cap - i) (by omega) (fun q hq => own_someH own (i * 3 + q) (by omega)) hfz
        have own4 := own_clearH (l := dk) (by omega) own i (by omega) vs
        have G4 := grown_setCells vs (i * 3) wr G
        rw [HK.out] at own4
        have HO4 := Lib.hid own4
        have HG4 := Lib.hid G4
        have HL := Lib.hid hlen
        have hne2 : (i == cap) = false := by simp; omega
        clear hlen own4 G4 HK hH HO HG own G HP HD0 HI HD i0 i1 i2
        go_wp2_with fail
        go_ret
        exact ⟨⟨_, rfl, HL.out ▸ HO4.out⟩, HG4.out⟩
end Go.Proofs.Ytkckdombcnifnaa
