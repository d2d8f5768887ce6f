/-
  The law's own: a record cut short.
-/
import Derived.Test.YtopjiokbmpghjaaRcdL
namespace Go.Proofs.Ytopjiokbmpghjaa
open Go.RowKit Go.Shelf
set_option linter.unusedVariables false
set_option linter.unusedSimpArgs false

def fewR (r : Rc) : Rc := ⟨r.k, ⟨few5 r.d.ls, r.d.rt, r.d.pl, r.d.tr, r.d.du, r.d.st⟩, few5 r.l, r.f, r.t, few6 r.a⟩
theorem retC9 {fn : Func} {p : Tmp} (h : fn.results = #[.cell p 29]) {tmps : Array Value} {w : World} {A : Nat} {v1 v2 v3 : Value} {k f t : Int} {d : D6} (hp : tmps.getD p undef = .pointer (some ⟨A, 0, none⟩))
    (hV : Vals w A 29 (recV k v1 d v2 f t v3)) : (results fn tmps).run Try.prog w = .ok (.agg (recV k v1 d v2 f t v3)) w := results_cell_row h tmps w A 29 (recV k v1 d v2 f t v3) _ _ hp hV Try.underlying29 rfl (by kernel_rfl)
/-- a record as it comes in among the arguments -/
structure RIn (w : World) (o1 : Option Addr) (n1 c1 : Nat) (o2 : Option Addr) (n2 c2 : Nat) (o3 : Option Addr) (n3 c3 : Nat) (r : Rc) : Prop where
  ls : Ls w o1 n1 c1 r.d.ls
  l : Ls w o2 n2 c2 r.l
  ms : Ms w o3 n3 c3 r.a
  b1 : n1 ≤ 9223372036854775807
  b2 : n2 ≤ 9223372036854775807
  b3 : n3 ≤ 9223372036854775807
theorem RIn.below {w w' : World} {o1 : Option Addr} {n1 c1 : Nat} {o2 : Option Addr} {n2 c2 : Nat} {o3 : Option Addr} {n3 c3 : Nat} {r : Rc} (h : RIn w o1 n1 c1 o2 n2 c2 o3 n3 c3 r) {C : Nat} (hB : Below C w w') (hC : w.heap.size ≤ C) : RIn w' o1 n1 c1 o2 n2 c2 o3 n3 c3 r :=
  ⟨h.ls.below hB hC, h.l.below hB hC, h.ms.below hB hC, h.b1, h.b2, h.b3⟩
set_option maxRecDepth 100000 in
set_option maxHeartbeats 12800000 in
theorem few17_any (o1 : Option Addr) (n1 c1 : Nat) (o2 : Option Addr) (n2 c2 : Nat) (o3 : Option Addr) (n3 c3 : Nat) (r : Rc) (w : World) (h : RIn w o1 n1 c1 o2 n2 c2 o3 n3 c3 r) :
    Calls Try.prog 7 #[aggRc o1 n1 c1 o2 n2 c2 o3 n3 c3 r] w fun e w' => (∃ p1 m1 d1 p2 m2 d2 p3 m3 d3, e = .returned (aggRc p1 m1 d1 p2 m2 d2 p3 m3 d3 (fewR r)) ∧ RAt w' p1 m1 d1 p2 m2 d2 p3 m3 d3 (fewR r)) ∧ Below w.heap.size w w' := by
  obtain ⟨k, ⟨l, rt, pl, tr, du, st⟩, m, f, t, q⟩ := r
  have hl3 := h.ms.len
  have hr3 := h.ms.room
  have hb1 := h.b1
  have hb2 := h.b2
  have hb3 := h.b3
  dsimp only at hl3
  obtain ⟨v, hv, ev, hvn, hv6⟩ := min_of n3 6
  have HG : Hid (few6 q = (q.take v).map cutM) := by show _ = _; unfold few6; rw [hl3, hv]
  clear hv
  change min (n3 : Int) 6 = (v : Int) at ev
  dsimp only [aggRc, recV, fewR] at *
  obtain ⟨VB, VA, B0⟩ := pair_boxes w 29 29 #[.int .i64 k, .slice o1 n1 c1, .int .i64 rt, .int .i64 pl, .int .i64 tr, .int .i64 du, .int .i64 st, .slice o2 n2 c2, .int .i64 f, .int .i64 t, .slice o3 n3 c3] #[.int .i64 0, .slice none 0 0, .int .i64 0, .int .i64 0, .int .i64 0, .int .i64 0, .int .i64 0, .slice none 0 0, .int .i64 0, .int .i64 0, .slice none 0 0]
  have h0 := h.below B0 (Nat.le_refl _)
  clear h
  go_enter Try.func7, Try.ntmps7
  go_upto_region 1 with fail
  generalize (w.alloc _).alloc _ = W at *
  generalize hA : w.heap.size = A at *
  obtain ⟨C, hC⟩ : ∃ C, C = W.heap.size := ⟨_, rfl⟩
  have hBC : Below C W W := hC ▸ Below.refl _ _
  have own0 : W.ownsRow C 45 3 (.slice none 0 0) 0 (cellsM ([] : List M3)) := World.ownsRow_nil _ _ _ _
  have hAW := B0.size
  rw [hA] at hAW
  have x10 : W.cell? ⟨A, 10, none⟩ = some (.slice o3 n3 c3) := VB.cell 10
  go_wp2_with fail
  clear ev x10
  go_loopw [3, 5, 16] (fun s3 _ s16 wr => ∃ j : Nat, j ≤ v ∧ s16 = .int .i64 j ∧ wr.ownsRow C 45 3 s3 j (cellsM ((q.take j).map cutM)) ∧ Below C W wr) (fun _ _ s16 _ => v - (intOf s16).toNat)
  case atStart => exact ⟨0, Nat.zero_le _, rfl, by simpa using own0, hBC⟩
  case round =>
    obtain ⟨j, hj, rfl, hown, hB⟩ := hrel
    have hCr : C ≤ wr.heap.size := by have := hB.size; omega
    by_cases hlt : j < v
    · obtain ⟨g, o, rfl, x0, x1, x2⟩ := (h0.ms.below hB (by omega)).cell j (by omega)
      have HX := Lib.hid (fewM_take q j (by omega))
      have hjn : j < n3 := by omega
      dsimp only at x0 x1 x2
      generalize q.getD j zM = x at *
      obtain ⟨y, s, u⟩ := x
      dsimp only at x0 x1 x2
      have HC : Hid (cutM (y, s, u) = (y, s.extract 0 (min s.size 12), u.extract 0 (min u.size 12))) := rfl
      obtain ⟨a, ha, ha1, ha2, ha3⟩ := min_of s.size 12
      obtain ⟨b, hb, hb1, hb2, hb3⟩ := min_of u.size 12
      rw [← ha, ← hb] at HC
      change min (s.size : Int) 12 = (a : Int) at ha1
      change min (u.size : Int) 12 = (b : Int) at hb1
      have hB7 := hB.alloc hCr (.cells #[.int .i64 y, .string s, .string u] 45)
      have howna := hown.alloc (.cells #[.int .i64 y, .string s, .string u] 45)
      have e0 : (wr.alloc (.cells #[.int .i64 y, .string s, .string u] 45)).cell? ⟨wr.heap.size, 0, none⟩ = some (.int .i64 y) := by simp
      have e1 : (wr.alloc (.cells #[.int .i64 y, .string s, .string u] 45)).cell? ⟨wr.heap.size, 1, none⟩ = some (.string s) := by simp
      have e2 : (wr.alloc (.cells #[.int .i64 y, .string s, .string u] 45)).cell? ⟨wr.heap.size, 2, none⟩ = some (.string u) := by simp
      have hs7 : (wr.alloc (.cells #[.int .i64 y, .string s, .string u] 45)).heap.size = wr.heap.size + 1 := by simp
      clear h0 HG ha hb own0 VA VB hBC
      go_wp2_with fail
      generalize wr.alloc (.cells #[.int .i64 y, .string s, .string u] 45) = w7 at *
      have hC7 : C ≤ w7.heap.size := by omega
      have hsz8 : C ≤ (w7.drew.alloc (.cells #[.int .i64 y, .string (s.extract 0 a), .string (u.extract 0 b)] 45)).heap.size := by simp; omega
      have hone := Ms.one w7.drew (y, s.extract 0 a, u.extract 0 b)
      rw [show w7.drew.heap.size = wr.heap.size + 1 from hs7] at hone
      have hkeep : ∀ w1, (w7.drew.alloc (.cells #[.int .i64 y, .string (s.extract 0 a), .string (u.extract 0 b)] 45)).grownBy w1 u3.ownBlock → w1.cell? ⟨wr.heap.size, 0, none⟩ = some (.int .i64 y) ∧ w1.cell? ⟨wr.heap.size, 1, none⟩ = some (.string s) ∧ w1.cell? ⟨wr.heap.size, 2, none⟩ = some (.string u) := fun w1 hg => by
        have hlt := hown.lt
        have hne : some wr.heap.size ≠ u3.ownBlock := fun e => by have := hlt _ e.symm; omega
        have k0 := hg.cell_far (a := ⟨wr.heap.size, 0, none⟩) (by simp; omega) hne
        have k1 := hg.cell_far (a := ⟨wr.heap.size, 1, none⟩) (by simp; omega) hne
        have k2 := hg.cell_far (a := ⟨wr.heap.size, 2, none⟩) (by simp; omega) hne
        have B := (Below.refl w7.drew.heap.size w7.drew).alloc (Nat.le_refl _) (.cells #[.int .i64 y, .string (s.extract 0 a), .string (u.extract 0 b)] 45)
        rw [k0, k1, k2]
        exact ⟨(B.cell (p := ⟨wr.heap.size, 0, none⟩) (by show _ < w7.heap.size; dsimp only; omega)).trans e0, (B.cell (p := ⟨wr.heap.size, 1, none⟩) (by show _ < w7.heap.size; dsimp only; omega)).trans e1, (B.cell (p := ⟨wr.heap.size, 2, none⟩) (by show _ < w7.heap.size; dsimp only; omega)).trans e2⟩
      have HK := Lib.hid hkeep
      clear hkeep
      generalize wr.heap.size = Bx at *
      go_region_held3 (fun w' => w'.cell? ⟨Bx, 0, none⟩ = some (.int .i64 y) ∧ w'.cell? ⟨Bx, 1, none⟩ = some (.string s) ∧ w'.cell? ⟨Bx, 2, none⟩ = some (.string u)) (first | exact HK.out _ hg1 | go_keep) (first | (refine step_append_ms _ (by rfl) (.tmp 20) (.tmp 38) (by rfl) C (by rfl) ((own_drewL howna).alloc _) (by rfl) hone (by omega) hsz8 ?_; intro v1 w1 own1 hg1))
      all_goals
        have B8 : Below C W w1 := (hB7.drew.alloc hC7 (.cells #[.int .i64 y, .string (s.extract 0 a), .string (u.extract 0 b)] 45)).grown hg1 hsz8 (fun r e => (hown.lt r e).1)
        have own2 := own1
        rw [← cellsM_append, ← HC.out, ← HX.out] at own2
        clear own1 hg1 hone hjn x0 x1 x2 e0 e1 e2 howna hown
        go_wp2_with fail
        go_roundw
        case rel => exact ⟨j + 1, by omega, by go_num, own2, B8⟩
        case measure => simp [intOf]; omega
    · obtain rfl : j = v := by omega
      obtain ⟨pa, p1, rfl, hD, _⟩ := Ms.of_own (by rw [List.length_map, List.length_take]; omega) hown
      rw [← HG.out] at hD
      have h1 := h0.below hB (by omega)
      have VBr := VB.keep hB (by omega)
      have VAr := VA.keep hB (by omega)
      have Bw := B0.trans (hB.mono (by omega))
      clear hown own0 h0 VA VB hBC
      have x1 : wr.cell? ⟨A, 1, none⟩ = some (.slice o1 n1 c1) := VBr.cell 1
      have x7 : wr.cell? ⟨A, 7, none⟩ = some (.slice o2 n2 c2) := VBr.cell 7
      have hwA : w.heap.size ≤ A := by omega
      have HL1 := labels17_any o1 n1 c1 l wr.drew (h1.ls.below (Below.refl _ wr).drew (Nat.le_refl _)) hb1
      have HL2 := fun (w5 : World) (hw : Below wr.drew.heap.size wr.drew w5) => labels17_any o2 n2 c2 m w5 (h1.l.below ((Below.refl _ wr).drew.trans hw) (Nat.le_refl _)) hb2
      have hsr : Hid (A ≤ wr.drew.heap.size) := by show A ≤ wr.heap.size; have := hB.size; omega
      have Bwd := Bw.drew
      have hDd := hD.below (Below.refl _ wr).drew (Nat.le_refl _)
      clear h1 Bw
      go_wp2_with fail
      go_cut [] (fun W8 => ∃ l1 m1 d1 l2 m2 d2, RAt W8 l1 m1 d1 l2 m2 d2 pa j p1 (⟨k, ⟨few5 l, rt, pl, tr, du, st⟩, few5 m, f, t, few6 q⟩ : Rc) ∧ Vals W8 A 29 #[.int .i64 k, .slice l1 m1 d1, .int .i64 rt, .int .i64 pl, .int .i64 tr, .int .i64 du, .int .i64 st, .slice l2 m2 d2, .int .i64 f, .int .i64 t, .slice pa j p1] ∧ Vals W8 (A + 1) 29 #[.int .i64 0, .slice none 0 0, .int .i64 0, .int .i64 0, .int .i64 0, .int .i64 0, .int .i64 0, .slice none 0 0, .int .i64 0, .int .i64 0, .slice none 0 0] ∧ Below A w W8)
      case first =>
        go_region_with (first
          | (go_at_call 16; refine (HL2 w5 B5).mono ?_; rintro e w6 ⟨⟨l2, m2, d2, rfl, hL2, hm2, _⟩, B7⟩; have VB6 := VB5.keep B7 (Nat.le_refl _); have VA6 := VA5.keep B7 (Nat.le_refl _); have hM6 := hM5.below B7 (Nat.le_refl _); have hL16 := hL1.below B7 (Nat.le_refl _); have B8 := B6.trans (B7.mono (by have := B6.size; omega)); have f1 := VB6.free 1; have f7 := VB6.free 7; have f10 := VB6.free 10; have u1 : w6.cell? ⟨A, 1, none⟩ = some (.slice o1 n1 c1) := VB6.cell 1; have u7 : w6.cell? ⟨A, 7, none⟩ = some (.slice o2 n2 c2) := VB6.cell 7; have u10 : w6.cell? ⟨A, 10, none⟩ = some (.slice o3 n3 c3) := VB6.cell 10)
          | (go_at_call 16; refine HL1.mono ?_; rintro e w5 ⟨⟨l1, m1, d1, rfl, hL1, hm1, _⟩, B5⟩; have VB5 := Vals.keep (w := wr.drew) VBr B5 (Nat.le_refl _); have VA5 := Vals.keep (w := wr.drew) VAr B5 (Nat.le_refl _); have hM5 := hDd.below B5 (Nat.le_refl _); have B6 := Bwd.trans (B5.mono hsr.out); have x7 : w5.cell? ⟨A, 7, none⟩ = some (.slice o2 n2 c2) := VB5.cell 7))
        all_goals
          have VB8 : Vals (((w6.setCell ⟨A, 1, none⟩ (.slice l1 m1 d1)).setCell ⟨A, 7, none⟩ (.slice l2 m2 d2)).setCell ⟨A, 10, none⟩ (.slice pa j p1)) A 29 #[.int .i64 k, .slice l1 m1 d1, .int .i64 rt, .int .i64 pl, .int .i64 tr, .int .i64 du, .int .i64 st, .slice l2 m2 d2, .int .i64 f, .int .i64 t, .slice pa j p1] := by
            have := ((VB6.set 1 (.slice l1 m1 d1)).set 7 (.slice l2 m2 d2)).set 10 (.slice pa j p1)
            simpa using this
          have VA8 := ((VA6.other (B := A) (by omega) 1 (.slice l1 m1 d1)).other (B := A) (by omega) 7 (.slice l2 m2 d2)).other (B := A) (by omega) 10 (.slice pa j p1)
          have hO := (((OnlyAt.refl A w6).set 1 (.slice l1 m1 d1)).set 7 (.slice l2 m2 d2)).set 10 (.slice pa j p1)
          have hR : RAt (((w6.setCell ⟨A, 1, none⟩ (.slice l1 m1 d1)).setCell ⟨A, 7, none⟩ (.slice l2 m2 d2)).setCell ⟨A, 10, none⟩ (.slice pa j p1)) l1 m1 d1 l2 m2 d2 pa j p1 (⟨k, ⟨few5 l, rt, pl, tr, du, st⟩, few5 m, f, t, few6 q⟩ : Rc) := ⟨hO.lies hL16 VB6 (rec_no_text _ _ _ _ _ _ _ _ _ _ _ _ _ _ _ _ _), hO.lies hL2 VB6 (rec_no_text _ _ _ _ _ _ _ _ _ _ _ _ _ _ _ _ _), hO.liesM hM6 VB6 (rec_no_text _ _ _ _ _ _ _ _ _ _ _ _ _ _ _ _ _), by omega, by omega, by omega⟩
          have B9 := ((B8.setCell (p := ⟨A, 1, none⟩) (Nat.le_refl _) (.slice l1 m1 d1)).setCell (p := ⟨A, 7, none⟩) (Nat.le_refl _) (.slice l2 m2 d2)).setCell (p := ⟨A, 10, none⟩) (Nat.le_refl _) (.slice pa j p1)
          clear f1 f7 f10 u1 u7 u10 VB6 VA6 hM6 hL16 hL2 B7 x7 hO
          go_wp2_with fail
          go_meet
          case rel => exact ⟨l1, m1, d1, l2, m2, d2, hR, VB8, VA8, B9⟩
      case rest =>
        obtain ⟨l1, m1, d1, l2, m2, d2, hR, VB8, VA8, B9⟩ := hcut
        have g0 := VA8.free 0; have g1 := VA8.free 1; have g2 := VA8.free 2; have g3 := VA8.free 3; have g4 := VA8.free 4; have g5 := VA8.free 5; have g6 := VA8.free 6; have g7 := VA8.free 7; have g8 := VA8.free 8; have g9 := VA8.free 9; have g10 := VA8.free 10
        have z0 : wc.cell? ⟨A + 1, 0, none⟩ = some (.int .i64 0) := VA8.cell 0; have z1 : wc.cell? ⟨A + 1, 1, none⟩ = some (.slice none 0 0) := VA8.cell 1; have z2 : wc.cell? ⟨A + 1, 2, none⟩ = some (.int .i64 0) := VA8.cell 2; have z3 : wc.cell? ⟨A + 1, 3, none⟩ = some (.int .i64 0) := VA8.cell 3; have z4 : wc.cell? ⟨A + 1, 4, none⟩ = some (.int .i64 0) := VA8.cell 4; have z5 : wc.cell? ⟨A + 1, 5, none⟩ = some (.int .i64 0) := VA8.cell 5; have z6 : wc.cell? ⟨A + 1, 6, none⟩ = some (.int .i64 0) := VA8.cell 6; have z7 : wc.cell? ⟨A + 1, 7, none⟩ = some (.slice none 0 0) := VA8.cell 7; have z8 : wc.cell? ⟨A + 1, 8, none⟩ = some (.int .i64 0) := VA8.cell 8; have z9 : wc.cell? ⟨A + 1, 9, none⟩ = some (.int .i64 0) := VA8.cell 9; have z10 : wc.cell? ⟨A + 1, 10, none⟩ = some (.slice none 0 0) := VA8.cell 10
        have y0 : wc.cell? ⟨A, 0, none⟩ = some (.int .i64 k) := VB8.cell 0; have y1 : wc.cell? ⟨A, 1, none⟩ = some (.slice l1 m1 d1) := VB8.cell 1; have y2 : wc.cell? ⟨A, 2, none⟩ = some (.int .i64 rt) := VB8.cell 2; have y3 : wc.cell? ⟨A, 3, none⟩ = some (.int .i64 pl) := VB8.cell 3; have y4 : wc.cell? ⟨A, 4, none⟩ = some (.int .i64 tr) := VB8.cell 4; have y5 : wc.cell? ⟨A, 5, none⟩ = some (.int .i64 du) := VB8.cell 5; have y6 : wc.cell? ⟨A, 6, none⟩ = some (.int .i64 st) := VB8.cell 6; have y7 : wc.cell? ⟨A, 7, none⟩ = some (.slice l2 m2 d2) := VB8.cell 7; have y8 : wc.cell? ⟨A, 8, none⟩ = some (.int .i64 f) := VB8.cell 8; have y9 : wc.cell? ⟨A, 9, none⟩ = some (.int .i64 t) := VB8.cell 9; have y10 : wc.cell? ⟨A, 10, none⟩ = some (.slice pa j p1) := VB8.cell 10
        have VE := VA8.eleven (.int .i64 k) (.slice l1 m1 d1) (.int .i64 rt) (.int .i64 pl) (.int .i64 tr) (.int .i64 du) (.int .i64 st) (.slice l2 m2 d2) (.int .i64 f) (.int .i64 t) (.slice pa j p1)
        have hRE := ((((((((((((OnlyAt.refl (A + 1) wc).set 0 (.int .i64 k)).set 1 (.slice l1 m1 d1)).set 2 (.int .i64 rt)).set 3 (.int .i64 pl)).set 4 (.int .i64 tr)).set 5 (.int .i64 du)).set 6 (.int .i64 st)).set 7 (.slice l2 m2 d2)).set 8 (.int .i64 f)).set 9 (.int .i64 t)).set 10 (.slice pa j p1)).rec hR VA8 (rec_no_text _ _ _ _ _ _ _ _ _ _ _ _ _ _ _ _ _)
        clear VA8 VB8 hR
        go_wp2_with fail
        refine bodyPost_ret (retC9 (k := k) (v1 := .slice l1 m1 d1) (d := ⟨few5 l, rt, pl, tr, du, st⟩) (v2 := .slice l2 m2 d2) (f := f) (t := t) (v3 := .slice pa j p1) rfl rfl VE) rfl ?_
        exact ⟨⟨_, _, _, _, _, _, _, _, _, rfl, hRE⟩, by rw [hA]; exact below_eleven B9 (by omega) _ _ _ _ _ _ _ _ _ _ _⟩
end Go.Proofs.Ytopjiokbmpghjaa
