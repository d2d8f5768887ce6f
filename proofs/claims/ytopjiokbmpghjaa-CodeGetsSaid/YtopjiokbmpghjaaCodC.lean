/-
  The program's own: the record of a text.
-/
import Derived.Test.YtopjiokbmpghjaaCodK
import Derived.Test.YtopjiokbmpghjaaCodF
namespace Go.Proofs.Ytopjiokbmpghjaa
open Go.RowKit Go.Shelf
set_option linter.unusedVariables false
set_option linter.unusedSimpArgs false

theorem retK {fn : Func} {p u : Tmp} (h : fn.results = #[.cell p 29, .tmp u]) {tmps : Array Value} {w : World} {A : Nat} {z v1 v2 v3 : Value} {k f t : Int} {d : D6} (hp : tmps.getD p undef = .pointer (some ⟨A, 0, none⟩)) (hu : tmps.getD u undef = z)
    (hV : Vals w A 29 (recV k v1 d v2 f t v3)) : (results fn tmps).run Try.prog w = .ok (.tuple #[.agg (recV k v1 d v2 f t v3), z]) w := by
  rw [results_cell_tmp h, hp, hu]
  simp [Result.andThen, asAddr, run_loadVar_row w A _ 29 _ _ _ hV Try.underlying29 rfl (by kernel_rfl)]
def getE (L : List UInt8) : Int := if gotB L then 0 else 13
def getV (L : List UInt8) : Rc := if gotB L then parseN L else zRc
set_option maxRecDepth 100000 in
set_option maxHeartbeats 6400000 in
theorem cget_any (L : List UInt8) (hL : L.length ≤ 1000) (w : World) :
    Calls Try.prog 13 #[.string (tx L)] w fun e w' => (∃ o1 n1 c1 o2 n2 c2 o3 n3 c3, e = .returned (.tuple #[aggRc o1 n1 c1 o2 n2 c2 o3 n3 c3 (getV L), .int .i64 (getE L)]) ∧ RAt w' o1 n1 c1 o2 n2 c2 o3 n3 c3 (getV L)) ∧ Below w.heap.size w w' := by
  have HV : Hid (getV L = if gotB L then (rcdR (L, false)).1 else zRc) := by
    show _ = _
    unfold getV
    cases h : gotB L with
    | false => rfl
    | true => rw [got_parse h]
  have HE : Hid (getE L = if gotB L then 0 else 13) := rfl
  have HG : Hid (gotB L = (decide ((rcdR (L, false)).2.1 = []) && !(rcdR (L, false)).2.2 && recR (rcdR (L, false)).1)) := by show _ = _; unfold gotB; rw [Bool.and_assoc]
  have HC := fun A w h => crecord_any A (L, false) hL w h
  have HN := fun A w h => ended_any A (rcdR (L, false)).2 w h
  have HR := fun o1 n1 c1 o2 n2 c2 o3 n3 c3 w h => cright_any o1 n1 c1 o2 n2 c2 o3 n3 c3 (rcdR (L, false)).1 w h
  generalize (decide ((rcdR (L, false)).2.1 = []) && !(rcdR (L, false)).2.2) = eb at *
  obtain ⟨R, hR⟩ : ∃ R, recR (rcdR (L, false)).1 = R := ⟨_, rfl⟩
  rw [hR] at HG HR
  clear hR
  rw [HG.out] at HV HE
  clear HG
  generalize getV L = gv at *
  generalize getE L = ge at *
  generalize rcdR (L, false) = rr at *
  obtain ⟨⟨k, ⟨l, rt, pl, tr, du, st⟩, m, f, t, q⟩, s2⟩ := rr
  dsimp only [aggRc, recV] at *
  have VE := (Vals.new w 29 zRV).alloc (.cells #[.string (tx L), .bool false] 63)
  have hL0 : Left ((w.alloc (.cells zRV 29)).alloc (.cells #[.string (tx L), .bool false] 63)) (w.heap.size + 1) (L, false) := by
    have := Vals.new (w.alloc (.cells zRV 29)) 63 #[.string (tx L), .bool false]
    rw [World.size_alloc] at this
    exact this
  have B0 := ((Below.refl w.heap.size w).alloc (Nat.le_refl _) (.cells zRV 29)).alloc (by rw [World.size_alloc]; omega) (.cells #[.string (tx L), .bool false] 63)
  generalize tx L = tL at *
  go_enter Try.func13, Try.ntmps13
  go_upto_region 2 with fail
  generalize (w.alloc _).alloc _ = W at *
  generalize hE : w.heap.size = E at *
  have hEW := VE.lt
  go_wp2_with fail
  refine (HC _ _ hL0).mono ?_
  rintro e w1 ⟨⟨o1, n1, c1, o2, n2, c2, o3, n3, c3, rfl, hRA⟩, hL1, B1⟩
  have V1 := B1.vals VE (by omega)
  have C1 := B0.trans (B1.below (C := E) (by omega) (by omega))
  have hA1 := Vals.lt hL1
  clear VE hL0 B0 B1 HC
  have V2 := V1.alloc (.cells #[.int .i64 k, .slice o1 n1 c1, .int .i64 rt, .int .i64 pl, .int .i64 tr, .int .i64 du, .int .i64 st, .slice o2 n2 c2, .int .i64 f, .int .i64 t, .slice o3 n3 c3] 29)
  have VX := Vals.new w1 29 #[.int .i64 k, .slice o1 n1 c1, .int .i64 rt, .int .i64 pl, .int .i64 tr, .int .i64 du, .int .i64 st, .slice o2 n2 c2, .int .i64 f, .int .i64 t, .slice o3 n3 c3]
  have hL2 : Left (w1.alloc (.cells #[.int .i64 k, .slice o1 n1 c1, .int .i64 rt, .int .i64 pl, .int .i64 tr, .int .i64 du, .int .i64 st, .slice o2 n2 c2, .int .i64 f, .int .i64 t, .slice o3 n3 c3] 29)) (E + 1) s2 := Vals.alloc (w := w1) hL1 _
  have C2 := C1.alloc (by omega) (.cells #[.int .i64 k, .slice o1 n1 c1, .int .i64 rt, .int .i64 pl, .int .i64 tr, .int .i64 du, .int .i64 st, .slice o2 n2 c2, .int .i64 f, .int .i64 t, .slice o3 n3 c3] 29)
  have hR2 := hRA.below (below_alloc w1 (.cells #[.int .i64 k, .slice o1 n1 c1, .int .i64 rt, .int .i64 pl, .int .i64 tr, .int .i64 du, .int .i64 st, .slice o2 n2 c2, .int .i64 f, .int .i64 t, .slice o3 n3 c3] 29)) (Nat.le_refl _)
  go_upto_region 3 with fail
  generalize w1.alloc _ = w2 at *
  generalize hX : w1.heap.size = X at *
  have hXE : E ≠ X := by omega
  have HN1 := HN _ _ hL2
  clear V1 C1 hL1 hRA hX
  have x0 : w2.cell? ⟨X, 0, none⟩ = some (.int .i64 k) := VX.cell 0
  have x1 : w2.cell? ⟨X, 1, none⟩ = some (.slice o1 n1 c1) := VX.cell 1
  have x2 : w2.cell? ⟨X, 2, none⟩ = some (.int .i64 rt) := VX.cell 2
  have x3 : w2.cell? ⟨X, 3, none⟩ = some (.int .i64 pl) := VX.cell 3
  have x4 : w2.cell? ⟨X, 4, none⟩ = some (.int .i64 tr) := VX.cell 4
  have x5 : w2.cell? ⟨X, 5, none⟩ = some (.int .i64 du) := VX.cell 5
  have x6 : w2.cell? ⟨X, 6, none⟩ = some (.int .i64 st) := VX.cell 6
  have x7 : w2.cell? ⟨X, 7, none⟩ = some (.slice o2 n2 c2) := VX.cell 7
  have x8 : w2.cell? ⟨X, 8, none⟩ = some (.int .i64 f) := VX.cell 8
  have x9 : w2.cell? ⟨X, 9, none⟩ = some (.int .i64 t) := VX.cell 9
  have x10 : w2.cell? ⟨X, 10, none⟩ = some (.slice o3 n3 c3) := VX.cell 10
  cases eb with
  | false =>
    go_wp2_with fail
    refine HN1.mono ?_
    rintro e w3 ⟨rfl, rfl⟩
    have z0 : w3.cell? ⟨E, 0, none⟩ = some (.int .i64 0) := V2.cell 0
    have z1 : w3.cell? ⟨E, 1, none⟩ = some (.slice none 0 0) := V2.cell 1
    have z2 : w3.cell? ⟨E, 2, none⟩ = some (.int .i64 0) := V2.cell 2
    have z3 : w3.cell? ⟨E, 3, none⟩ = some (.int .i64 0) := V2.cell 3
    have z4 : w3.cell? ⟨E, 4, none⟩ = some (.int .i64 0) := V2.cell 4
    have z5 : w3.cell? ⟨E, 5, none⟩ = some (.int .i64 0) := V2.cell 5
    have z6 : w3.cell? ⟨E, 6, none⟩ = some (.int .i64 0) := V2.cell 6
    have z7 : w3.cell? ⟨E, 7, none⟩ = some (.slice none 0 0) := V2.cell 7
    have z8 : w3.cell? ⟨E, 8, none⟩ = some (.int .i64 0) := V2.cell 8
    have z9 : w3.cell? ⟨E, 9, none⟩ = some (.int .i64 0) := V2.cell 9
    have z10 : w3.cell? ⟨E, 10, none⟩ = some (.slice none 0 0) := V2.cell 10
    have g0 := V2.free 0
    have g1 := V2.free 1
    have g2 := V2.free 2
    have g3 := V2.free 3
    have g4 := V2.free 4
    have g5 := V2.free 5
    have g6 := V2.free 6
    have g7 := V2.free 7
    have g8 := V2.free 8
    have g9 := V2.free 9
    have g10 := V2.free 10
    have VO := V2.eleven (.int .i64 0) (.slice none 0 0) (.int .i64 0) (.int .i64 0) (.int .i64 0) (.int .i64 0) (.int .i64 0) (.slice none 0 0) (.int .i64 0) (.int .i64 0) (.slice none 0 0)
    have BO := below_eleven C2 (Nat.le_refl E) (.int .i64 0) (.slice none 0 0) (.int .i64 0) (.int .i64 0) (.int .i64 0) (.int .i64 0) (.int .i64 0) (.slice none 0 0) (.int .i64 0) (.int .i64 0) (.slice none 0 0)
    go_wp2_with fail
    refine bodyPost_ret (retK (k := 0) (v1 := .slice none 0 0) (d := ⟨[], 0, 0, 0, 0, 0⟩) (v2 := .slice none 0 0) (f := 0) (t := 0) (v3 := .slice none 0 0) rfl rfl rfl VO) rfl ?_
    rw [HV.out, HE.out]
    exact ⟨⟨_, _, _, _, _, _, _, _, _, rfl, RAt.nil _⟩, by rw [hE]; exact BO⟩
  | true =>
    have HR1 := HR _ _ _ _ _ _ _ _ _ _ hR2
    go_wp2_with fail
    refine HN1.mono ?_
    rintro e w3 ⟨rfl, rfl⟩
    go_wp2_with fail
    refine HR1.mono ?_
    rintro e w4 ⟨rfl, B4⟩
    have V4 := V2.keep B4 (Nat.le_refl _)
    have VX4 := VX.keep B4 (Nat.le_refl _)
    have hR4 := hR2.below B4 (Nat.le_refl _)
    have C4 := C2.trans (B4.mono (by have := V2.lt; omega))
    clear V2 VX hR2 C2 B4 HR1 HR HN HN1 hL2 x0 x1 x2 x3 x4 x5 x6 x7 x8 x9 x10
    cases R with
    | false =>
      have z0 : w4.cell? ⟨E, 0, none⟩ = some (.int .i64 0) := V4.cell 0
      have z1 : w4.cell? ⟨E, 1, none⟩ = some (.slice none 0 0) := V4.cell 1
      have z2 : w4.cell? ⟨E, 2, none⟩ = some (.int .i64 0) := V4.cell 2
      have z3 : w4.cell? ⟨E, 3, none⟩ = some (.int .i64 0) := V4.cell 3
      have z4 : w4.cell? ⟨E, 4, none⟩ = some (.int .i64 0) := V4.cell 4
      have z5 : w4.cell? ⟨E, 5, none⟩ = some (.int .i64 0) := V4.cell 5
      have z6 : w4.cell? ⟨E, 6, none⟩ = some (.int .i64 0) := V4.cell 6
      have z7 : w4.cell? ⟨E, 7, none⟩ = some (.slice none 0 0) := V4.cell 7
      have z8 : w4.cell? ⟨E, 8, none⟩ = some (.int .i64 0) := V4.cell 8
      have z9 : w4.cell? ⟨E, 9, none⟩ = some (.int .i64 0) := V4.cell 9
      have z10 : w4.cell? ⟨E, 10, none⟩ = some (.slice none 0 0) := V4.cell 10
      have g0 := V4.free 0
      have g1 := V4.free 1
      have g2 := V4.free 2
      have g3 := V4.free 3
      have g4 := V4.free 4
      have g5 := V4.free 5
      have g6 := V4.free 6
      have g7 := V4.free 7
      have g8 := V4.free 8
      have g9 := V4.free 9
      have g10 := V4.free 10
      have VO := V4.eleven (.int .i64 0) (.slice none 0 0) (.int .i64 0) (.int .i64 0) (.int .i64 0) (.int .i64 0) (.int .i64 0) (.slice none 0 0) (.int .i64 0) (.int .i64 0) (.slice none 0 0)
      have BO := below_eleven C4 (Nat.le_refl E) (.int .i64 0) (.slice none 0 0) (.int .i64 0) (.int .i64 0) (.int .i64 0) (.int .i64 0) (.int .i64 0) (.slice none 0 0) (.int .i64 0) (.int .i64 0) (.slice none 0 0)
      go_wp2_with fail
      refine bodyPost_ret (retK (k := 0) (v1 := .slice none 0 0) (d := ⟨[], 0, 0, 0, 0, 0⟩) (v2 := .slice none 0 0) (f := 0) (t := 0) (v3 := .slice none 0 0) rfl rfl rfl VO) rfl ?_
      rw [HV.out, HE.out]
      exact ⟨⟨_, _, _, _, _, _, _, _, _, rfl, RAt.nil _⟩, by rw [hE]; exact BO⟩
    | true =>
      have z0 : w4.cell? ⟨E, 0, none⟩ = some (.int .i64 0) := V4.cell 0
      have z1 : w4.cell? ⟨E, 1, none⟩ = some (.slice none 0 0) := V4.cell 1
      have z2 : w4.cell? ⟨E, 2, none⟩ = some (.int .i64 0) := V4.cell 2
      have z3 : w4.cell? ⟨E, 3, none⟩ = some (.int .i64 0) := V4.cell 3
      have z4 : w4.cell? ⟨E, 4, none⟩ = some (.int .i64 0) := V4.cell 4
      have z5 : w4.cell? ⟨E, 5, none⟩ = some (.int .i64 0) := V4.cell 5
      have z6 : w4.cell? ⟨E, 6, none⟩ = some (.int .i64 0) := V4.cell 6
      have z7 : w4.cell? ⟨E, 7, none⟩ = some (.slice none 0 0) := V4.cell 7
      have z8 : w4.cell? ⟨E, 8, none⟩ = some (.int .i64 0) := V4.cell 8
      have z9 : w4.cell? ⟨E, 9, none⟩ = some (.int .i64 0) := V4.cell 9
      have z10 : w4.cell? ⟨E, 10, none⟩ = some (.slice none 0 0) := V4.cell 10
      have g0 := V4.free 0
      have g1 := V4.free 1
      have g2 := V4.free 2
      have g3 := V4.free 3
      have g4 := V4.free 4
      have g5 := V4.free 5
      have g6 := V4.free 6
      have g7 := V4.free 7
      have g8 := V4.free 8
      have g9 := V4.free 9
      have g10 := V4.free 10
      have x0 : w4.cell? ⟨X, 0, none⟩ = some (.int .i64 k) := VX4.cell 0
      have x1 : w4.cell? ⟨X, 1, none⟩ = some (.slice o1 n1 c1) := VX4.cell 1
      have x2 : w4.cell? ⟨X, 2, none⟩ = some (.int .i64 rt) := VX4.cell 2
      have x3 : w4.cell? ⟨X, 3, none⟩ = some (.int .i64 pl) := VX4.cell 3
      have x4 : w4.cell? ⟨X, 4, none⟩ = some (.int .i64 tr) := VX4.cell 4
      have x5 : w4.cell? ⟨X, 5, none⟩ = some (.int .i64 du) := VX4.cell 5
      have x6 : w4.cell? ⟨X, 6, none⟩ = some (.int .i64 st) := VX4.cell 6
      have x7 : w4.cell? ⟨X, 7, none⟩ = some (.slice o2 n2 c2) := VX4.cell 7
      have x8 : w4.cell? ⟨X, 8, none⟩ = some (.int .i64 f) := VX4.cell 8
      have x9 : w4.cell? ⟨X, 9, none⟩ = some (.int .i64 t) := VX4.cell 9
      have x10 : w4.cell? ⟨X, 10, none⟩ = some (.slice o3 n3 c3) := VX4.cell 10
      have VO := V4.eleven (.int .i64 k) (.slice o1 n1 c1) (.int .i64 rt) (.int .i64 pl) (.int .i64 tr) (.int .i64 du) (.int .i64 st) (.slice o2 n2 c2) (.int .i64 f) (.int .i64 t) (.slice o3 n3 c3)
      have BO := below_eleven C4 (Nat.le_refl E) (.int .i64 k) (.slice o1 n1 c1) (.int .i64 rt) (.int .i64 pl) (.int .i64 tr) (.int .i64 du) (.int .i64 st) (.slice o2 n2 c2) (.int .i64 f) (.int .i64 t) (.slice o3 n3 c3)
      have hO := (((((((((((OnlyAt.refl E w4).set 0 (.int .i64 k)).set 1 (.slice o1 n1 c1)).set 2 (.int .i64 rt)).set 3 (.int .i64 pl)).set 4 (.int .i64 tr)).set 5 (.int .i64 du)).set 6 (.int .i64 st)).set 7 (.slice o2 n2 c2)).set 8 (.int .i64 f)).set 9 (.int .i64 t)).set 10 (.slice o3 n3 c3)
      have hRR := hO.rec hR4 V4 (rec_no_text _ _ _ _ _ _ _ _ _ _ _ _ _ _ _ _ _)
      clear hO hR4 V4 VX4 C4
      go_wp2_with fail
      refine bodyPost_ret (retK (k := k) (v1 := .slice o1 n1 c1) (d := ⟨[], rt, pl, tr, du, st⟩) (v2 := .slice o2 n2 c2) (f := f) (t := t) (v3 := .slice o3 n3 c3) rfl rfl rfl VO) rfl ?_
      rw [HV.out, HE.out]
      exact ⟨⟨_, _, _, _, _, _, _, _, _, rfl, hRR⟩, by rw [hE]; exact BO⟩
end Go.Proofs.Ytopjiokbmpghjaa
