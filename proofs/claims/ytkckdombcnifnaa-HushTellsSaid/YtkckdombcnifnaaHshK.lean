/-
  One more hush.
-/
import Derived.Test.YtkckdombcnifnaaHshJ
import Derived.Deep.DeepCutAuto
namespace Go.Proofs.Ytkckdombcnifnaa
open Go.RowKit Go.Shelf
set_option linter.unusedVariables false

/-- why there is not one more, or 0 -/
def addF (l : List T3) (h : T3) (now : Int) : Int := if (hshT l && (okT h && timeB now)) = true then (if h.2.1 ≤ now then 3 else if (keptT l now).length = 8 then 5 else 0) else 1
def AddOut (w' : World) (l : List T3) (h : T3) (now : Int) (e : Ending) : Prop := (addF l h now ≠ 0 ∧ e = .returned (.tuple #[.slice none 0 0, .int .i64 (addF l h now)])) ∨ (addF l h now = 0 ∧ ∃ v, e = .returned (.tuple #[v, .int .i64 0]) ∧ RowOut w' (keptT l now ++ [h]) v)
theorem keep_kept (l : List H5) (now : Int) (g : Nat) (c : Array Value) : (keepF [⟨g, c, fun x => decide (now < x.t)⟩] l).map h3 = keptT (l.map h3) now := by
  unfold keepF keptT
  rw [List.filter_map]
  congr 1
  apply List.filter_congr
  intro x hx
  simp only [List.all_cons, List.all_nil, Bool.and_true]
  rfl
theorem ret_row {e : Ending} {a b c d : Value} (h1 : a = c) (h2 : b = d) (h : e = .returned (.tuple #[a, b])) : e = .returned (.tuple #[c, d]) := by rw [h, h1, h2]
set_option maxRecDepth 100000 in
set_option maxHeartbeats 12800000 in
theorem add_any (oa : Option Addr) (n cap : Nat) (l : List H5) (x : H5) (now : Int) (w : World) (h : Hs w oa n cap l) (hk : Lk w l) (hn : n ≤ 1000000) (hM : Ms w x.pa x.n x.c x.ms) (hx : x.n ≤ 1000000) :
    Calls Try.prog 10 #[.slice oa n cap, aggH x, .int .i64 now] w fun e w' => AddOut w' (l.map h3) (h3 x) now e ∧ Below w.heap.size w w' := by
  have hl := h.len
  have B0 := below_alloc w (.cells (vH x) 25)
  have V0 := Vals.new w 25 (vH x)
  have HR := hshR_any oa n cap l _ (h.below B0 (Nat.le_refl _)) (hk.below B0 (Nat.le_refl _)) (by omega)
  have HN := fun w1 (B1 : Below w.heap.size w w1) => noneH_any x.f x.t x.pa x.n x.c x.ms w1 (hM.below B1 (Nat.le_refl _)) (by omega)
  have HT := fun w => tick_right now w
  have HA : Hid (addF (l.map h3) (h3 x) now = if (hshT (l.map h3) && (hushR x.f x.t x.ms && timeB now)) = true then (if x.t ≤ now then 3 else if (keptT (l.map h3) now).length = 8 then 5 else 0) else 1) := rfl
  cases ha : hshT (l.map h3) with
  | false =>
    have HA2 : Hid (∀ w', AddOut w' (l.map h3) (h3 x) now (.returned (.tuple #[.slice none 0 0, .int .i64 1]))) := fun w' => by
      have e : addF (l.map h3) (h3 x) now = 1 := by rw [HA.out, ha]; rfl
      exact .inl ⟨by rw [e]; decide, by rw [e]⟩
    rw [ha] at HR
    obtain ⟨f, t, pa, m, c, ms⟩ := x
    dsimp only [aggH, vH] at *
    clear ha HA h hk hM HN HT V0 hl
    go_enter Try.func10, Try.ntmps10
    go_wp2_with fail
    refine HR.mono ?_
    rintro e w1 ⟨rfl, B1⟩
    go_wp2_with fail
    go_ret2
    exact ⟨HA2.out _, B0.trans (B1.mono B0.size)⟩
  | true =>
    cases hb : hushR x.f x.t x.ms with
    | false =>
      have HA2 : Hid (∀ w', AddOut w' (l.map h3) (h3 x) now (.returned (.tuple #[.slice none 0 0, .int .i64 1]))) := fun w' => by
        have e : addF (l.map h3) (h3 x) now = 1 := by rw [HA.out, ha, hb]; rfl
        exact .inl ⟨by rw [e]; decide, by rw [e]⟩
      rw [ha] at HR
      rw [hb] at HN
      obtain ⟨f, t, pa, m, c, ms⟩ := x
      dsimp only [aggH, vH] at *
      clear ha HA h hk hM HT hl hb
      go_enter Try.func10, Try.ntmps10
      go_wp2_with fail
      refine HR.mono ?_
      rintro e w1 ⟨rfl, B1⟩
      have V1 := V0.keep B1 (Nat.le_refl _)
      have B2 := B0.trans (B1.mono B0.size)
      have d0 : w1.cell? ⟨w.heap.size, 0, none⟩ = some (.int .i64 f) := V1.cell 0
      have d1 : w1.cell? ⟨w.heap.size, 1, none⟩ = some (.int .i64 t) := V1.cell 1
      have d2 : w1.cell? ⟨w.heap.size, 2, none⟩ = some (.slice pa m c) := V1.cell 2
      clear B1 V1 V0
      go_wp2_with fail
      refine (HN _ B2).mono ?_
      rintro e w3 ⟨rfl, B3⟩
      go_wp2_with fail
      go_ret2
      exact ⟨HA2.out _, B2.trans (B3.mono B2.size)⟩
    | true =>
      cases hc : timeB now with
      | false =>
        have HA2 : Hid (∀ w', AddOut w' (l.map h3) (h3 x) now (.returned (.tuple #[.slice none 0 0, .int .i64 1]))) := fun w' => by
          have e : addF (l.map h3) (h3 x) now = 1 := by rw [HA.out, ha, hb, hc]; rfl
          exact .inl ⟨by rw [e]; decide, by rw [e]⟩
        rw [ha] at HR
        rw [hb] at HN
        rw [hc] at HT
        obtain ⟨f, t, pa, m, c, ms⟩ := x
        dsimp only [aggH, vH] at *
        clear ha HA h hk hM hl hb hc
        go_enter Try.func10, Try.ntmps10
        go_wp2_with fail
        refine HR.mono ?_
        rintro e w1 ⟨rfl, B1⟩
        have V1 := V0.keep B1 (Nat.le_refl _)
        have B2 := B0.trans (B1.mono B0.size)
        have d0 : w1.cell? ⟨w.heap.size, 0, none⟩ = some (.int .i64 f) := V1.cell 0
        have d1 : w1.cell? ⟨w.heap.size, 1, none⟩ = some (.int .i64 t) := V1.cell 1
        have d2 : w1.cell? ⟨w.heap.size, 2, none⟩ = some (.slice pa m c) := V1.cell 2
        clear B1 V1 V0
        go_wp2_with fail
        refine (HN _ B2).mono ?_
        rintro e w3 ⟨rfl, B3⟩
        go_wp2_with fail
        refine (HT _).mono ?_
        rintro e w4 ⟨rfl, hw4⟩
        subst hw4
        go_wp2_with fail
        go_ret2
        exact ⟨HA2.out _, B2.trans (B3.mono B2.size)⟩
      | true =>
        have HA2 := Lib.hid (HA.out)
        rw [ha, hb, hc] at HA2
        simp only [Bool.and_self, if_true] at HA2
        have H4 : Hid (∀ y ∈ l, y.ms.length ≤ 4) := fun y hy => by
          have := (okT_parts (hshT_mem ha (List.mem_map.2 ⟨y, hy, rfl⟩))).2.2.2
          unfold matsB at this
          simp only [Bool.and_eq_true, decide_eq_true_eq] at this
          exact this.1
        have Hx4 : x.ms.length ≤ 4 := by
          have := (okT_parts (h := h3 x) hb).2.2.2
          unfold matsB at this
          simp only [Bool.and_eq_true, decide_eq_true_eq] at this
          exact this.1
        have hl8 : n ≤ 8 := by have := hshT_len ha; rw [List.length_map, hl] at this; exact this
        rw [ha] at HR
        rw [hb] at HN
        rw [hc] at HT
        clear ha hb hc HA
        have HNO := fun W => notOver_new now W
        have HNA := fun (B : Nat) w c => notOver_any B now x w c
        have hkM : Lk w [x] := Lk.one hM (by omega)
        have hxx : x = ⟨x.f, x.t, x.pa, x.n, x.c, x.ms⟩ := rfl
        generalize hts : l.map h3 = ts at *
        generalize htx : h3 x = tx at *
        have Hts := Lib.hid hts
        have Htx := Lib.hid htx
        obtain ⟨f, t, pa, m, c, ms⟩ := x
        dsimp only [aggH, vH] at *
        clear hts htx hM hxx
        go_enter Try.func10, Try.ntmps10
        go_wp2_with fail
        refine HR.mono ?_
        rintro e w1 ⟨rfl, B1⟩
        have V1 := V0.keep B1 (Nat.le_refl _)
        have B2 := B0.trans (B1.mono B0.size)
        have d0 : w1.cell? ⟨w.heap.size, 0, none⟩ = some (.int .i64 f) := V1.cell 0
        have d1 : w1.cell? ⟨w.heap.size, 1, none⟩ = some (.int .i64 t) := V1.cell 1
        have d2 : w1.cell? ⟨w.heap.size, 2, none⟩ = some (.slice pa m c) := V1.cell 2
        clear B1 V0 HR
        go_wp2_with fail
        refine (HN _ B2).mono ?_
        rintro e w3 ⟨rfl, B3⟩
        have V3 := V1.keep B3 (Nat.le_refl _)
        have B4 := B2.trans (B3.mono B2.size)
        clear B2 B3 V1 d0 d1 d2 HN
        go_wp2_with fail
        refine (HT _).mono ?_
        rintro e w4 ⟨rfl, hw4⟩
        subst hw4
        clear HT
        go_wp2_with fail
        refine (HNO _).mono ?_
        rintro e w5 ⟨rfl, hw5⟩
        have B5 : Below w4.heap.size w4 w5 := by rw [hw5]; exact below_alloc _ _
        have k5 : w5.cell? ⟨w4.heap.size, 0, none⟩ = some (.int .i64 now) := by rw [hw5]; simp
        clear hw5
        have V5 := V3.keep B5 (Nat.le_refl _)
        have B6 := B4.trans (B5.mono B4.size)
        have d0 : w5.cell? ⟨w.heap.size, 0, none⟩ = some (.int .i64 f) := V5.cell 0
        have d1 : w5.cell? ⟨w.heap.size, 1, none⟩ = some (.int .i64 t) := V5.cell 1
        have d2 : w5.cell? ⟨w.heap.size, 2, none⟩ = some (.slice pa m c) := V5.cell 2
        generalize w4.heap.size = A3 at *
        have HNB := HNA A3 w5 k5
        clear B4 V3 HNO HNA
        go_wp2_with fail
        refine HNB.mono ?_
        rintro e w6 ⟨rfl, B7⟩
        have V6 := V5.keep B7 (Nat.le_refl _)
        have k6 := keepR B7 k5
        have B8 := B6.trans (B7.mono B6.size)
        clear B6 B7 V5 k5 d0 d1 d2 HNB B5
        by_cases hov : t ≤ now
        · have HA3 : Hid (∀ w', AddOut w' ts tx now (.returned (.tuple #[.slice none 0 0, .int .i64 3]))) := fun w' => by
            have e : addF ts tx now = 3 := by rw [HA2.out, if_pos hov]
            exact .inl ⟨by rw [e]; decide, by rw [e]⟩
          have hno : decide (now < t) = false := by simp; omega
          go_wp2_with fail
          go_ret2
          exact ⟨HA3.out _, B8⟩
        · have hno : decide (now < t) = true := by simp; omega
          have HA3 : Hid (addF ts tx now = if (keptT ts now).length = 8 then 5 else 0) := by show _ = _; rw [HA2.out, if_neg hov]
          clear HA2
          have B9 := below_alloc w6 (.cells #[.func (.func 39) #[] #[.pointer (some ⟨A3, 0, none⟩)]] 41)
          have V9 := Vals.new w6 41 #[.func (.func 39) #[] #[.pointer (some ⟨A3, 0, none⟩)]]
          have B10 := B8.trans (B9.mono B8.size)
          have V10 := V6.keep B9 (Nat.le_refl _)
          generalize hw7 : w6.alloc (.cells #[.func (.func 39) #[] #[.pointer (some ⟨A3, 0, none⟩)]] 41) = w7 at *
          have HW7 := Lib.hid hw7
          have HMt := matching_any oa n cap l w6.heap.size 1 1 [⟨_, _, fun x => decide (now < x.t)⟩] w7 (h.below B10 (Nat.le_refl _)) hn rfl (Nat.le_refl _) (fun q hq => by
            simp only [List.mem_cons, List.not_mem_nil, or_false] at hq
            rcases hq with rfl
            exact ⟨tells_notOver w7 l A3 now (keepR B9 k6), enter_notOver⟩) (fun i hi => by
            obtain rfl : i = 0 := by omega
            exact V9.cell 0) (by omega)
          have HKK := Lib.hid (keep_kept l now 39 #[.pointer (some ⟨A3, 0, none⟩)])
          rw [Hts.out] at HKK
          have hlen : (keepF [⟨39, #[.pointer (some ⟨A3, 0, none⟩)], fun x => decide (now < x.t)⟩] l).length ≤ n := by rw [← hl]; exact List.length_filter_le _ _
          have hmem : ∀ y ∈ keepF [⟨39, #[.pointer (some ⟨A3, 0, none⟩)], fun x => decide (now < x.t)⟩] l, y ∈ l := keepF_mem
          generalize keepF [⟨39, #[.pointer (some ⟨A3, 0, none⟩)], fun x => decide (now < x.t)⟩] l = l2 at *
          have hk2 := hk.sub hmem
          have H42 : Hid (∀ y ∈ l2, y.ms.length ≤ 4) := fun y hy => H4.out y (hmem y hy)
          have hkl : (keptT ts now).length = l2.length := by rw [← HKK.out, List.length_map]
          rw [hkl] at HA3
          clear hw7 V9 k6 B9 V6 h hk H4 hmem hkl hl
          go_wp2_with fail
          rw [HW7.out]
          refine HMt.mono ?_
          rintro e w8 ⟨⟨v, rfl, own8⟩, B11⟩
          have V11 := V10.keep B11 (Nat.le_refl _)
          have B12 := B10.trans (B11.mono B10.size)
          obtain ⟨oz, cz, rfl, _, _⟩ := Hs.of_own rfl own8
          have hsz : w.heap.size ≤ w8.heap.size := B12.size
          have hs78 := B11.size
          have hs7 := B10.size
          clear HMt V10 B11 HW7
          have HO8 := Lib.hid own8
          clear own8
          generalize hr : l2.length = r at *
          have HLr := Lib.hid hr
          clear hr
          by_cases h8 : r = 8
          · have HA4 : Hid (∀ w', AddOut w' ts tx now (.returned (.tuple #[.slice none 0 0, .int .i64 5]))) := fun w' => by
              have e : addF ts tx now = 5 := by rw [HA3.out, if_pos h8]
              exact .inl ⟨by rw [e]; decide, by rw [e]⟩
            have he : ((r : Int) == 8) = true := by simp; omega
            clear HA3 V11 h8
            go_wp2_with fail
            go_ret2
            exact ⟨HA4.out _, B12⟩
          · have HA4 : Hid (addF ts tx now = 0) := by show _ = _; rw [HA3.out, if_neg h8]
            have he : ((r : Int) == 8) = false := by simp; omega
            clear HA3 h8
            have d0 : w8.cell? ⟨w.heap.size, 0, none⟩ = some (.int .i64 f) := V11.cell 0
            have d1 : w8.cell? ⟨w.heap.size, 1, none⟩ = some (.int .i64 t) := V11.cell 1
            have d2 : w8.cell? ⟨w.heap.size, 2, none⟩ = some (.slice pa m c) := V11.cell 2
            have B13 := below_alloc w8 (.cells #[.int .i64 f, .int .i64 t, .slice pa m c] 25)
            have hone := Hs.one w8 ⟨f, t, pa, m, c, ms⟩
            have own9 := own_keep HO8.out B13
            have B14 := B12.trans (B13.mono B12.size)
            dsimp only [vH] at hone
            go_wp2_with (first | (at_builtin; refine wpList_append_hs _ rfl (.tmp 35) (.tmp 37) rfl w7.heap.size rfl own9 rfl hone (by omega) (Nat.le_trans hs78 B13.size) ?_; intro v1 w10 own10 hg10; have B15 : Below w7.heap.size w8 w10 := ((Below.refl w7.heap.size w8).alloc hs78 _).grown hg10 (Nat.le_trans hs78 B13.size) (fun r e => (own9.lt r e).1)))
            rw [← cellsH_append] at own10
            have hll : (l2 ++ [⟨f, t, pa, m, c, ms⟩] : List H5).length = r + 1 := by rw [List.length_append, HLr.out]; rfl
            obtain ⟨oq, cq, rfl, hH, _⟩ := Hs.of_own hll own10
            have B16 : Below w.heap.size w w10 := B12.trans (B15.mono hs7)
            have HCp := copyOf_any oq (r + 1) cq (l2 ++ [⟨f, t, pa, m, c, ms⟩]) w10 hH ((hk2.below B16 (Nat.le_refl _)).append (hkM.below B16 (Nat.le_refl _))) (by omega) (fun y hy => by
              rcases List.mem_append.1 hy with hy | hy
              · exact H42.out y hy
              · rw [List.mem_singleton] at hy
                subst hy
                exact Hx4)
            rw [List.map_append, HKK.out, List.map_singleton, Htx.out] at HCp
            have HA5 : Hid (∀ w' v, RowOut w' (keptT ts now ++ [tx]) v → AddOut w' ts tx now (.returned (.tuple #[v, .int .i64 0]))) := fun w' v hv => .inr ⟨HA4.out, v, rfl, hv⟩
            generalize keptT ts now ++ [tx] = tz at *
            clear own10 hg10 own9 hone hH B15 B14 B13 V11 d0 d1 d2 hk2 H42 HKK HA4 hkM
            go_wp2_with fail
            refine HCp.mono ?_
            rintro e w11 ⟨⟨v2, rfl, hv2⟩, B17⟩
            have HZ := Lib.hid (HA5.out w11 v2 hv2)
            clear HCp hv2 HA5
            go_wp2_with fail
            go_ret2
            exact ⟨HZ.out, B16.trans (B17.mono B16.size)⟩
end Go.Proofs.Ytkckdombcnifnaa
