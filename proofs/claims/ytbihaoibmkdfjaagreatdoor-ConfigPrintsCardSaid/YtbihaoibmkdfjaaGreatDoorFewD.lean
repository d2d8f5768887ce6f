/-
  The law's own: few, walked.
-/
import Derived.Test.YtbihaoibmkdfjaaGreatDoorFewC
namespace Go.Proofs.YtbihaoibmkdfjaaGreatDoor
open Go.RowKit Go.Shelf
set_option linter.unusedVariables false

theorem retC1 {fn : Func} {p : Tmp} (h : fn.results = #[.cell p 25]) {tmps : Array Value} {w : World} {A : Nat} {a b : Value} {x y : Int} (hp : tmps.getD p undef = .pointer (some ⟨A, 0, none⟩))
    (hV : Vals w A 25 (cfgV a b x y)) : (results fn tmps).run Tryz.prog w = .ok (.agg (cfgV a b x y)) w := results_cell_row h tmps w A 25 (cfgV a b x y) _ _ hp hV Tryz.underlying25 rfl (by kernel_rfl)
theorem own_base {w : World} {base base' : Nat} {e : TypeId} {s : Nat} {v : Value} {n : Nat} {xs : List Value} (h : w.ownsRow base e s v n xs) (hb : base' ≤ base) : w.ownsRow base' e s v n xs := by
  refine ⟨h.1, ?_⟩
  rcases h.2 with h2 | ⟨g, cap, cur, h3, h4, h5⟩
  · exact .inl h2
  · exact .inr ⟨g, cap, cur, h3, by omega, h5⟩
theorem own_set_ne {w : World} {base : Nat} {e : TypeId} {s : Nat} {v : Value} {n : Nat} {xs : List Value} (h : w.ownsRow base e s v n xs) {A : Nat} (hne : ∀ r, v.ownBlock = some r → r ≠ A) (i : Nat) (u : Value) : (w.setCell ⟨A, i, none⟩ u).ownsRow base e s v n xs := by
  refine ⟨h.1, ?_⟩
  rcases h.2 with h2 | ⟨g, cap, cur, rfl, h4, h5, h6⟩
  · exact .inl h2
  · exact .inr ⟨g, cap, cur, rfl, h4, (Below.heap_setCell w ⟨A, i, none⟩ u g (hne g rfl)).trans h5, h6⟩
theorem OwnC.base {V w : World} {b b' : Nat} {v : Value} {l : List T2} {qs : List (Value × Value)} (h : OwnC V w b v l qs) (hb : b' ≤ b) : OwnC V w b' v l qs :=
  ⟨own_base h.own hb, h.len, fun j hj => ⟨(h.part j hj).1, own_base (h.part j hj).2 hb⟩⟩
theorem OwnC.setT {V w : World} {base : Nat} {v : Value} {l : List T2} {qs : List (Value × Value)} (h : OwnC V w base v l qs) {A : Nat} {cs : Array Value} (hV : Vals w A 25 cs) (i : Nat) (u : Value) : OwnC V (w.setCell ⟨A, i, none⟩ u) base v l qs :=
  ⟨own_setT h.own hV (by decide) i u, h.len, fun j hj => ⟨(h.part j hj).1, own_setT (h.part j hj).2 hV (by decide) i u⟩⟩
theorem OwnC.four {V w : World} {base : Nat} {v : Value} {l : List T2} {qs : List (Value × Value)} (h : OwnC V w base v l qs) {A : Nat} {x0 x1 x2 x3 : Value} (hV : Vals w A 25 #[x0, x1, x2, x3]) (y0 y1 y2 y3 : Value) : OwnC V ((((w.setCell ⟨A, 0, none⟩ y0).setCell ⟨A, 1, none⟩ y1).setCell ⟨A, 2, none⟩ y2).setCell ⟨A, 3, none⟩ y3) base v l qs :=
  ⟨own_four h.own hV (by decide) y0 y1 y2 y3, h.len, fun j hj => ⟨(h.part j hj).1, own_four (h.part j hj).2 hV (by decide) y0 y1 y2 y3⟩⟩
set_option maxRecDepth 100000 in
set_option maxHeartbeats 12800000 in
theorem few_any (V : World) (c : CfgL) (o1 : Option Addr) (n1 c1 : Nat) (o2 : Option Addr) (n2 c2 : Nat) (w : World) (hVw : Below V.heap.size V w) (h : Rs w o1 n1 c1 c.1) (h' : Qs V o2 n2 c2 c.2.1) (hn : n1 ≤ 9223372036854775807) (hm : n2 ≤ 9223372036854775807)
    (hb : ∀ i, i < n2 → (c.2.1.getD i zT).1.length ≤ 9223372036854775807 ∧ (c.2.1.getD i zT).2.length ≤ 9223372036854775807) :
    Calls Tryz.prog 10 #[.agg (cfgV (.slice o1 n1 c1) (.slice o2 n2 c2) c.2.2.1 c.2.2.2)] w fun e w' =>
      (∃ (pa : Option Addr) (m1 k1 : Nat) (pb : Option Addr) (m2 k2 : Nat), e = .returned (.agg (cfgV (.slice pa m1 k1) (.slice pb m2 k2) (fewC c).2.2.1 (fewC c).2.2.2)) ∧ w'.ownsRow w.heap.size 52 9 (.slice pa m1 k1) (fewC c).1.length (cellsR (fewC c).1) ∧ ∃ qs, OwnC V w' w.heap.size (.slice pb m2 k2) (fewC c).2.1 qs) ∧ Below w.heap.size w w' := by
  obtain ⟨rs, ts, q, t⟩ := c
  dsimp only at h h' hb
  have hl := h.len
  have hr := h.room
  have hl' := h'.len
  have hr' := h'.room
  obtain ⟨m, hmm, em, hmn, hm6⟩ := minN_of n1 6
  obtain ⟨p, hpp, ep, hpn, hp6⟩ := minN_of n2 6
  have HF : Hid ((fewC (rs, ts, q, t)).1 = (rs.take m).map cutR) := by show _ = _; unfold fewC; rw [hmm, ← hl]
  have HG : Hid ((fewC (rs, ts, q, t)).2.1 = (ts.take p).map fewT) := by show _ = _; unfold fewC; rw [hpp, ← hl']
  have HE : Hid ((fewC (rs, ts, q, t)).2.2 = (q, t)) := rfl
  rw [HE.out]
  generalize (fewC (rs, ts, q, t)).1 = FR at *
  generalize (fewC (rs, ts, q, t)).2.1 = FT at *
  dsimp only
  clear hmm hpp HE
  change min (n1 : Int) 6 = (m : Int) at em
  change min (n2 : Int) 6 = (p : Int) at ep
  have V1 : Vals (w.alloc (.cells (cfgV (.slice o1 n1 c1) (.slice o2 n2 c2) q t) 25)) w.heap.size 25 (cfgV (.slice o1 n1 c1) (.slice o2 n2 c2) q t) := Vals.new w _ _
  have V1' := V1.keep (below_alloc _ (.cells (cfgV (.slice none 0 0) (.slice none 0 0) 0 0) 25)) (Nat.le_refl _)
  have V2 := Vals.new (w.alloc (.cells (cfgV (.slice o1 n1 c1) (.slice o2 n2 c2) q t) 25)) 25 (cfgV (.slice none 0 0) (.slice none 0 0) 0 0)
  have B1 := below_alloc w (.cells (cfgV (.slice o1 n1 c1) (.slice o2 n2 c2) q t) 25)
  have B2 := B1.alloc B1.size (.cells (cfgV (.slice none 0 0) (.slice none 0 0) 0 0) 25)
  have T := h.below B2 (Nat.le_refl _)
  have M := h'
  clear h h' V1 B1
  go_enter Tryz.func10, Tryz.ntmps10
  go_upto_region 1 with fail
  obtain ⟨A, hA⟩ : ∃ A, A = w.heap.size := ⟨_, rfl⟩
  have hsz : (w.alloc (.cells (cfgV (.slice o1 n1 c1) (.slice o2 n2 c2) q t) 25)).heap.size = A + 1 := by rw [hA]; simp
  have hsz2 : ((w.alloc (.cells (cfgV (.slice o1 n1 c1) (.slice o2 n2 c2) q t) 25)).alloc (.cells (cfgV (.slice none 0 0) (.slice none 0 0) 0 0) 25)).heap.size = A + 2 := by rw [hA]; simp
  rw [hsz] at V2
  rw [← hA] at V1'
  rw [← hA]
  have hAw : w.heap.size ≤ A := by omega
  clear hsz hA
  generalize (w.alloc (.cells (cfgV (.slice o1 n1 c1) (.slice o2 n2 c2) q t) 25)).alloc (.cells (cfgV (.slice none 0 0) (.slice none 0 0) 0 0) 25) = W at *
  have own0 : W.ownsRow (A + 2) 52 9 (.slice none 0 0) 0 (cellsR ([] : List R9)) := World.ownsRow_nil _ _ _ _
  have x0 : W.cell? ⟨A, 0, none⟩ = some (.slice o1 n1 c1) := V1'.cell 0
  go_wp2_with fail
  clear em x0
  go_loopw [3, 5, 20] (fun s3 _ s20 wr => ∃ k : Nat, k ≤ m ∧ s20 = .int .i64 k ∧ wr.ownsRow (A + 2) 52 9 s3 k (cellsR ((rs.take k).map cutR)) ∧ Below (A + 2) W wr) (fun _ _ s20 _ => m - (intOf s20).toNat)
  case atStart => exact ⟨0, Nat.zero_le _, rfl, by simpa using own0, hsz2 ▸ Below.refl _ _⟩
  case round =>
    obtain ⟨k, hk, rfl, hown, hB⟩ := hrel
    by_cases hlt : k < m
    · obtain ⟨g, o, rfl, c0, c1, c2, c3, c4, c5, c6, c7, c8⟩ := (T.below hB (by omega)).nine k (by omega)
      have HX := Lib.hid (few_next cutR zR rs k (by omega))
      have hkn : k < n1 := by omega
      generalize rs.getD k zR = x at *
      obtain ⟨s, a0, a1, a2, a3, a4, a5, a6, a7⟩ := x
      dsimp only at c0 c1 c2 c3 c4 c5 c6 c7 c8
      have HC : Hid (cutR ⟨s, a0, a1, a2, a3, a4, a5, a6, a7⟩ = ⟨s.extract 0 (min s.size 12), a0, a1, a2, a3, a4, a5, a6, a7⟩) := rfl
      obtain ⟨a, ha, ha1, ha2, ha3⟩ := minN_of s.size 12
      rw [← ha] at HC
      change min (s.size : Int) 12 = (a : Int) at ha1
      have hB7 := hB.alloc (hsz2 ▸ hB.size) (.cells (vR ⟨s, a0, a1, a2, a3, a4, a5, a6, a7⟩) 52)
      have howna := hown.alloc (.cells (vR ⟨s, a0, a1, a2, a3, a4, a5, a6, a7⟩) 52)
      have VB := Vals.new wr 52 (vR ⟨s, a0, a1, a2, a3, a4, a5, a6, a7⟩)
      have hsb : A + 2 ≤ wr.heap.size := hsz2 ▸ hB.size
      have hlt7 := hown.lt
      dsimp only [vR] at hB7 howna VB
      clear T M V1' V2 B2 HF HG ha hb own0 hown hB
      go_upto_region 5 with fail
      generalize wr.alloc (.cells #[.string s, .int .i64 a0, .int .i64 a1, .int .i64 a2, .int .i64 a3, .int .i64 a4, .int .i64 a5, .int .i64 a6, .int .i64 a7] 52) = w7 at *
      generalize wr.heap.size = G at *
      clear c0 c1 c2 c3 c4 c5 c6 c7 c8
      have d0 : w7.cell? ⟨G, 0, none⟩ = some (.string s) := VB.cell 0
      have f0 := VB.free 0
      go_upto_region 6 with fail
      have VC : Vals (w7.setCell ⟨G, 0, none⟩ (.string (s.extract 0 a))) G 52 #[.string (s.extract 0 a), .int .i64 a0, .int .i64 a1, .int .i64 a2, .int .i64 a3, .int .i64 a4, .int .i64 a5, .int .i64 a6, .int .i64 a7] := by
        have := VB.set 0 (.string (s.extract 0 a))
        simpa using this
      have hB8 : Below (A + 2) W (w7.setCell ⟨G, 0, none⟩ (.string (s.extract 0 a))) := hB7.setCell (p := ⟨G, 0, none⟩) hsb _
      have own8 := own_set_ne howna (A := G) (fun r e => by have := hlt7 r e; omega) 0 (.string (s.extract 0 a))
      clear VB hB7 howna d0 f0
      generalize w7.setCell ⟨G, 0, none⟩ (.string (s.extract 0 a)) = w8 at *
      have hs8 : A + 2 ≤ w8.heap.size := hsz2 ▸ hB8.size
      have d0 : w8.cell? ⟨G, 0, none⟩ = some (.string (s.extract 0 a)) := VC.cell 0
      have d1 : w8.cell? ⟨G, 1, none⟩ = some (.int .i64 a0) := VC.cell 1
      have d2 : w8.cell? ⟨G, 2, none⟩ = some (.int .i64 a1) := VC.cell 2
      have d3 : w8.cell? ⟨G, 3, none⟩ = some (.int .i64 a2) := VC.cell 3
      have d4 : w8.cell? ⟨G, 4, none⟩ = some (.int .i64 a3) := VC.cell 4
      have d5 : w8.cell? ⟨G, 5, none⟩ = some (.int .i64 a4) := VC.cell 5
      have d6 : w8.cell? ⟨G, 6, none⟩ = some (.int .i64 a5) := VC.cell 6
      have d7 : w8.cell? ⟨G, 7, none⟩ = some (.int .i64 a6) := VC.cell 7
      have d8 : w8.cell? ⟨G, 8, none⟩ = some (.int .i64 a7) := VC.cell 8
      have hnews := World.news_of_block (Vals.new w8 52 #[.string (s.extract 0 a), .int .i64 a0, .int .i64 a1, .int .i64 a2, .int .i64 a3, .int .i64 a4, .int .i64 a5, .int .i64 a6, .int .i64 a7])
      clear VC
      go_wp2_with (first | (at_builtin; refine wpList_append_rc (r := ⟨s.extract 0 a, a0, a1, a2, a3, a4, a5, a6, a7⟩) _ rfl (.tmp 32) (.tmp 34) rfl (A + 2) rfl (own8.alloc _) rfl hnews (by omega) (by simp <;> omega) ?_; intro v1 w9 own1 hg1; have B9 : Below (A + 2) W w9 := (hB8.alloc (by omega) _).grown hg1 (by simp <;> omega) (fun r e => (hlt7 r e).1)))
      rw [← cellsR_snoc, ← HC.out, ← HX.out] at own1
      clear hg1 hnews d0 d1 d2 d3 d4 d5 d6 d7 d8 hB8 own8
      go_wp2_with fail
      go_roundw
      case rel => exact ⟨k + 1, by omega, by go_num, own1, B9⟩
      case measure => simp [intOf]; omega
    · obtain rfl : k = m := by omega
      have ownR := hown
      obtain ⟨pa, k1, rfl, hD, _⟩ := Rs.of_own (by rw [List.length_map, List.length_take]; omega) hown
      rw [← HF.out] at ownR
      have hlR : FR.length = k := by rw [HF.out, List.length_map, List.length_take]; omega
      clear hown own0 T hl hD
      have x1 : wr.cell? ⟨A, 1, none⟩ = some (.slice o2 n2 c2) := (V1'.keep hB (by omega)).cell 1
      obtain ⟨C, hC⟩ : ∃ C, C = wr.heap.size := ⟨_, rfl⟩
      have hCA : A + 2 ≤ C := by have := hB.size; omega
      have hBC : Below C wr wr := hC ▸ Below.refl _ _
      have hBw : Below w.heap.size w wr := B2.trans (hB.mono (by omega))
      have own0 : OwnC V wr C (.slice none 0 0) [] [] := OwnC.nil _ _ _
      go_wp2_with fail
      clear ep x1
      go_loopw [6, 8, 9, 11, 45] (fun s6 _ _ _ s45 wx => ∃ j : Nat, j ≤ p ∧ s45 = .int .i64 j ∧ (∃ qs, OwnC V wx C s6 ((ts.take j).map fewT) qs) ∧ Below C wr wx) (fun _ _ _ _ s45 _ => p - (intOf s45).toNat)
      case atStart => exact ⟨0, Nat.zero_le _, rfl, ⟨[], by simpa using own0⟩, hBC⟩
      case round =>
        obtain ⟨j, hj, rfl, ⟨qs, HO⟩, hBx⟩ := hrel
        have hsx := hBx.size
        have hlj : ((ts.take j).map fewT).length = j := by rw [List.length_map, List.length_take]; omega
        have hBwx : Below w.heap.size w wr := hBw.trans (hBx.mono (by omega))
        have hBVx : Below V.heap.size V wr := hVw.trans (hBwx.mono hVw.size)
        by_cases hlt2 : j < p
        · obtain ⟨g, o, pc, n3, c3, pd, n4, c4, rfl, c0, c1, hN, hMm⟩ := M.cell j (by omega)
          have c0 : wr.cell? ⟨g, o + j * 2, none⟩ = some (.slice pc n3 c3) := (hBVx.cell (World.block_lt_of_cell? V _ c0)).trans c0
          have c1 : wr.cell? ⟨g, o + j * 2 + 1, none⟩ = some (.slice pd n4 c4) := (hBVx.cell (World.block_lt_of_cell? V _ c1)).trans c1
          have hbj := hb j (by omega)
          have HX := Lib.hid (few_next fewT zT ts j (by omega))
          have hjn : j < n2 := by omega
          generalize ts.getD j zT = x at *
          obtain ⟨ch, ms⟩ := x
          dsimp only at hN hMm hbj
          have hl3 := hN.len
          have hr3 := hN.room
          have hl4 := hMm.len
          have hr4 := hMm.room
          obtain ⟨v, hv, ev, hvn, hv6⟩ := minN_of n3 6
          obtain ⟨u, hu, eu, hun, hu6⟩ := minN_of n4 6
          have HT : Hid (fewT (ch, ms) = (ch.take v, (ms.take u).map cutM)) := by show _ = _; unfold fewT few6; dsimp only; rw [hl3, hl4, ← hv, ← hu]
          change min (n3 : Int) 6 = (v : Int) at ev
          change min (n4 : Int) 6 = (u : Int) at eu
          have hNt := hN.take hvn
          have hB8 := hBx.alloc (by omega) (.cells #[.slice pc n3 c3, .slice pd n4 c4] 56)
          have HO8 := HO.keep (below_alloc wr (.cells #[.slice pc n3 c3, .slice pd n4 c4] 56))
          have VB := Vals.new wr 56 #[.slice pc n3 c3, .slice pd n4 c4]
          have hBw8 := hBVx.alloc (hBVx.size) (.cells #[.slice pc n3 c3, .slice pd n4 c4] 56)
          clear hv hu hb V1' V2 B2 HG HF own0 HO hN hB
          go_upto_region 13 with fail
          have hs8 : (wr.alloc (.cells #[.slice pc n3 c3, .slice pd n4 c4] 56)).heap.size = wr.heap.size + 1 := by simp
          generalize wr.alloc (.cells #[.slice pc n3 c3, .slice pd n4 c4] 56) = w8 at *
          generalize wr.heap.size = E at *
          have d1 : w8.cell? ⟨E, 1, none⟩ = some (.slice pd n4 c4) := VB.cell 1
          have own0 : w8.ownsRow w8.heap.size 59 3 (.slice none 0 0) 0 (cellsM ([] : List M3)) := World.ownsRow_nil _ _ _ _
          clear c0 c1
          go_wp2_with fail
          clear eu d1
          go_loopw [9, 11, 57] (fun s9 _ s57 wy => ∃ i : Nat, i ≤ u ∧ s57 = .int .i64 i ∧ wy.ownsRow w8.heap.size 59 3 s9 i (cellsM ((ms.take i).map cutM)) ∧ Below w8.heap.size w8 wy) (fun _ _ s57 _ => u - (intOf s57).toNat)
          case atStart => exact ⟨0, Nat.zero_le _, rfl, by simpa using own0, Below.refl _ _⟩
          case round =>
            obtain ⟨i, hi, rfl, hown, hBy⟩ := hrel
            have hsy := hBy.size
            by_cases hlt3 : i < u
            · obtain ⟨g3, o3, rfl, e0, e1, e2⟩ := (hMm.below (hBw8.trans (hBy.mono hBw8.size)) (Nat.le_refl _)).cell i (by omega)
              have HY := Lib.hid (few_next cutM zM ms i (by omega))
              have hin : i < n4 := by omega
              generalize ms.getD i zM = z at *
              obtain ⟨y, s, t'⟩ := z
              dsimp only at e0 e1 e2
              have HC : Hid (cutM (y, s, t') = (y, s.extract 0 (min s.size 12), t'.extract 0 (min t'.size 12))) := rfl
              obtain ⟨a, ha, ha1, ha2, ha3⟩ := minN_of s.size 12
              obtain ⟨b, hb, hb1, hb2, hb3⟩ := minN_of t'.size 12
              rw [← ha, ← hb] at HC
              change min (s.size : Int) 12 = (a : Int) at ha1
              change min (t'.size : Int) 12 = (b : Int) at hb1
              have hB7 := hBy.alloc hsy (.cells #[.int .i64 y, .string s, .string t'] 59)
              have howna := hown.alloc (.cells #[.int .i64 y, .string s, .string t'] 59)
              have f0 : (wr.alloc (.cells #[.int .i64 y, .string s, .string t'] 59)).cell? ⟨wr.heap.size, 0, none⟩ = some (.int .i64 y) := by simp
              have f1 : (wr.alloc (.cells #[.int .i64 y, .string s, .string t'] 59)).cell? ⟨wr.heap.size, 1, none⟩ = some (.string s) := by simp
              have f2 : (wr.alloc (.cells #[.int .i64 y, .string s, .string t'] 59)).cell? ⟨wr.heap.size, 2, none⟩ = some (.string t') := by simp
              have hs7 : (wr.alloc (.cells #[.int .i64 y, .string s, .string t'] 59)).heap.size = wr.heap.size + 1 := by simp
              clear ha hb own0 HO8 VB hNt HT HX hMm hBw8 hBwx M
              go_wp2_with fail
              generalize wr.alloc (.cells #[.int .i64 y, .string s, .string t'] 59) = w7 at *
              have hsz8 : w8.heap.size ≤ (w7.drew.alloc (.cells #[.int .i64 y, .string (s.extract 0 a), .string (t'.extract 0 b)] 59)).heap.size := by have := hB7.size; simp; omega
              have hone := Ms.one w7.drew (y, s.extract 0 a, t'.extract 0 b)
              rw [show w7.drew.heap.size = wr.heap.size + 1 from hs7] at hone
              have hlt7 := hown.lt
              have hkeep : ∀ w1, (w7.drew.alloc (.cells #[.int .i64 y, .string (s.extract 0 a), .string (t'.extract 0 b)] 59)).grownBy w1 u9.ownBlock → w1.cell? ⟨wr.heap.size, 0, none⟩ = some (.int .i64 y) ∧ w1.cell? ⟨wr.heap.size, 1, none⟩ = some (.string s) ∧ w1.cell? ⟨wr.heap.size, 2, none⟩ = some (.string t') := fun w1 hg => by
                have hne : some wr.heap.size ≠ u9.ownBlock := fun e => by have := hlt7 _ e.symm; omega
                have hb1 := hg.cell_far (a := ⟨wr.heap.size, 0, none⟩) (by simp; omega) hne
                have hb2 := hg.cell_far (a := ⟨wr.heap.size, 1, none⟩) (by simp; omega) hne
                have hb3 := hg.cell_far (a := ⟨wr.heap.size, 2, none⟩) (by simp; omega) hne
                have B := (Below.refl w7.drew.heap.size w7.drew).alloc (Nat.le_refl _) (.cells #[.int .i64 y, .string (s.extract 0 a), .string (t'.extract 0 b)] 59)
                rw [hb1, hb2, hb3]
                exact ⟨(B.cell (p := ⟨wr.heap.size, 0, none⟩) (by show _ < w7.heap.size; dsimp only; omega)).trans f0, (B.cell (p := ⟨wr.heap.size, 1, none⟩) (by show _ < w7.heap.size; dsimp only; omega)).trans f1, (B.cell (p := ⟨wr.heap.size, 2, none⟩) (by show _ < w7.heap.size; dsimp only; omega)).trans f2⟩
              have HK := Lib.hid hkeep
              clear hkeep
              generalize wr.heap.size = Bx at *
              go_region_held3 (fun w' => w'.cell? ⟨Bx, 0, none⟩ = some (.int .i64 y) ∧ w'.cell? ⟨Bx, 1, none⟩ = some (.string s) ∧ w'.cell? ⟨Bx, 2, none⟩ = some (.string t')) (first | exact HK.out _ hg1 | go_keep) (first | (refine step_append_ms _ (by rfl) (.tmp 61) (.tmp 79) (by rfl) w8.heap.size (by rfl) ((own_drewM howna).alloc _) (by rfl) hone (by omega) hsz8 ?_; intro v1 w1 own1 hg1))
              all_goals
                have B8 : Below w8.heap.size w8 w1 := (hB7.drew.alloc hB7.drew.size (.cells #[.int .i64 y, .string (s.extract 0 a), .string (t'.extract 0 b)] 59)).grown hg1 hsz8 (fun r e => (hlt7 r e).1)
                have own2 := own1
                rw [← cellsM_append, ← HC.out, ← HY.out] at own2
                clear own1 hg1 hone hin e0 e1 e2 f0 f1 f2 howna hown
                go_wp2_with fail
                go_roundw
                case rel => exact ⟨i + 1, by omega, by go_num, own2, B8⟩
                case measure => simp [intOf]; omega
            · obtain rfl : i = u := by omega
              have ownM := hown
              obtain ⟨pe, k5, rfl, _, _⟩ := Ms.of_own (by rw [List.length_map, List.length_take]; omega) hown
              have hsC : C ≤ w8.heap.size := by have := hB8.size; omega
              have HO9 := (HO8.keep hBy).keep (below_alloc wr (.cells #[.slice pc v c3, .slice pe i k5] 56))
              have VB9 := VB.keep hBy (by omega)
              have hB9 := hB8.trans (hBy.mono hsC)
              have hlm : ((ms.take i).map cutM).length = i := by rw [List.length_map, List.length_take]; omega
              have ownM9 := own_base (ownM.alloc (.cells #[.slice pc v c3, .slice pe i k5] 56)) hsC
              have d0 : wr.cell? ⟨E, 0, none⟩ = some (.slice pc n3 c3) := VB9.cell 0
              have hnews := World.news_of_block (Vals.new wr 56 #[.slice pc v c3, .slice pe i k5])
              have hCw : C ≤ wr.heap.size := by omega
              have HP := Lib.hid HO9
              have HMm := Lib.hid ownM9
              clear own0 HO8 HO9 VB VB9 hMm hBw8 hBwx M hB8 hown ownM ownM9 ownR
              go_wp2_with (first | (at_builtin; refine wpList_append_rt (pa := pc) (n1 := v) (c1 := c3) (pb := pe) (n2 := i) (c2 := k5) _ rfl (.tmp 82) (.tmp 92) rfl C rfl HP.out.own rfl hnews (by omega) (by simp <;> omega) ?_; intro v1 w9 own1 hg1; have B9 : Below C _ w9 := (hB9.alloc (by omega) _).grown hg1 (by simp <;> omega) (fun r e => (HP.out.own.lt r e).1); have OS := HP.out.snoc (t := (ch.take v, (ms.take i).map cutM)) hNt (by rw [hlm]; exact HMm.out) own1 hg1))
              rw [← HT.out, ← HX.out] at OS
              have HOS := Lib.hid OS
              clear OS own1 hg1 hnews HP HMm d0 hB9 HX HT
              go_wp2_with fail
              go_roundw
              case rel => exact ⟨j + 1, by omega, by go_num, ⟨_, HOS.out⟩, B9⟩
              case measure => simp [intOf]; omega
        · obtain rfl : j = p := by omega
          obtain ⟨pb, k2, he, _, _, _⟩ := HO.lies hBVx (Nat.le_refl _)
          rw [hlj] at he
          subst he
          rw [← HG.out] at HO
          have hlT : FT.length = j := by rw [HG.out]; exact hlj
          have hBA := hB.trans (hBx.mono hCA)
          have VA := V1'.keep hBA (by omega)
          have VB := V2.keep hBA (by omega)
          have ownR2 := own_keep ownR (hC ▸ hBx)
          have B9 : Below w.heap.size w wr := hBwx
          have y0 : wr.cell? ⟨A, 0, none⟩ = some (.slice o1 n1 c1) := VA.cell 0
          have y1 : wr.cell? ⟨A, 1, none⟩ = some (.slice o2 n2 c2) := VA.cell 1
          have g0 := VA.free 0
          have g1 := VA.free 1
          clear own0 M hl' V1' V2 B2 HF HG hBA hB hBx ownR hBw hb hBwx
          go_upto_region 21 with fail
          have VA1 : Vals (wr.setCell ⟨A, 0, none⟩ (.slice pa k k1)) A 25 (cfgV (.slice pa k k1) (.slice o2 n2 c2) q t) := by
            have := VA.set 0 (.slice pa k k1)
            simpa using this
          have VA2 : Vals ((wr.setCell ⟨A, 0, none⟩ (.slice pa k k1)).setCell ⟨A, 1, none⟩ (.slice pb j k2)) A 25 (cfgV (.slice pa k k1) (.slice pb j k2) q t) := by
            have := VA1.set 1 (.slice pb j k2)
            simpa using this
          have VB1 : Vals ((wr.setCell ⟨A, 0, none⟩ (.slice pa k k1)).setCell ⟨A, 1, none⟩ (.slice pb j k2)) (A + 1) 25 (cfgV (.slice none 0 0) (.slice none 0 0) 0 0) :=
            (Below.heap_setCell _ ⟨A, 1, none⟩ _ (A + 1) (by show A + 1 ≠ A; omega)).trans ((Below.heap_setCell wr ⟨A, 0, none⟩ _ (A + 1) (by show A + 1 ≠ A; omega)).trans VB)
          have B10 : Below w.heap.size w ((wr.setCell ⟨A, 0, none⟩ (.slice pa k k1)).setCell ⟨A, 1, none⟩ (.slice pb j k2)) := (B9.setCell (p := ⟨A, 0, none⟩) hAw _).setCell (p := ⟨A, 1, none⟩) hAw _
          have ownR3 := own_setT (own_setT ownR2 VA (by decide) 0 (.slice pa k k1)) VA1 (by decide) 1 (.slice pb j k2)
          have HO3 := (HO.setT VA 0 (.slice pa k k1)).setT VA1 1 (.slice pb j k2)
          clear VA VB VA1 B9 ownR2 HO y0 y1 g0 g1
          generalize (wr.setCell ⟨A, 0, none⟩ (.slice pa k k1)).setCell ⟨A, 1, none⟩ (.slice pb j k2) = W1 at *
          have x0 : W1.cell? ⟨A, 0, none⟩ = some (.slice pa k k1) := VA2.cell 0
          have x1 : W1.cell? ⟨A, 1, none⟩ = some (.slice pb j k2) := VA2.cell 1
          have x2 : W1.cell? ⟨A, 2, none⟩ = some (.int .i64 q) := VA2.cell 2
          have x3 : W1.cell? ⟨A, 3, none⟩ = some (.int .i64 t) := VA2.cell 3
          have q0 : W1.cell? ⟨A + 1, 0, none⟩ = some (.slice none 0 0) := VB1.cell 0
          have q1 : W1.cell? ⟨A + 1, 1, none⟩ = some (.slice none 0 0) := VB1.cell 1
          have q2 : W1.cell? ⟨A + 1, 2, none⟩ = some (.int .i64 0) := VB1.cell 2
          have q3 : W1.cell? ⟨A + 1, 3, none⟩ = some (.int .i64 0) := VB1.cell 3
          have g0 := VB1.free 0
          have g1 := VB1.free 1
          have g2 := VB1.free 2
          have g3 := VB1.free 3
          have hV5 := VB1.four (.slice pa k k1) (.slice pb j k2) (.int .i64 q) (.int .i64 t)
          have hB5 := below_four B10 (show w.heap.size ≤ A + 1 by omega) (.slice pa k k1) (.slice pb j k2) (.int .i64 q) (.int .i64 t)
          have ownR5 := own_four ownR3 VB1 (by decide) (.slice pa k k1) (.slice pb j k2) (.int .i64 q) (.int .i64 t)
          have HO5 := HO3.four VB1 (.slice pa k k1) (.slice pb j k2) (.int .i64 q) (.int .i64 t)
          have HR5 := Lib.hid ownR5
          have HQ5 := Lib.hid HO5
          clear VA2 VB1 B10 ownR3 HO3 ownR5 HO5
          go_wp2_with fail
          refine bodyPost_ret (retC1 rfl rfl hV5) rfl ?_
          refine ⟨⟨_, _, _, _, _, _, rfl, ?_, qs, ?_⟩, hB5⟩
          · rw [hlR]
            exact own_base HR5.out (by omega)
          · exact HQ5.out.base (by omega)
end Go.Proofs.YtbihaoibmkdfjaaGreatDoor
