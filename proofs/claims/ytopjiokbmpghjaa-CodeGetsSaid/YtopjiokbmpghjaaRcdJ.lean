/-
  The document's own: the record of a text (Get).
-/
import Derived.Test.YtopjiokbmpghjaaRcdI
import Derived.Deep.RegionHeld3
namespace Go.Proofs.Ytopjiokbmpghjaa
open Go.RowKit Go.Shelf
set_option linter.unusedVariables false
set_option linter.unusedSimpArgs false

/-- are they the bytes of a record that may be -/
def getB (L : List UInt8) : Bool := recR (parseN L) && decide (putL (parseN L) = L)
set_option maxRecDepth 100000 in
set_option maxHeartbeats 6400000 in
theorem refGet_any (L : List UInt8) (hL : L.length ≤ 1000) (w : World) :
    Calls Try.prog 14 #[.string (tx L)] w fun e w' => (∃ o1 n1 c1 o2 n2 c2 o3 n3 c3, e = .returned (.tuple #[aggRc o1 n1 c1 o2 n2 c2 o3 n3 c3 (parseN L), .bool (getB L)]) ∧ RAt w' o1 n1 c1 o2 n2 c2 o3 n3 c3 (parseN L)) ∧ Below w.heap.size w w' := by
  have HA := fun (i : Nat) w => at_any L (by omega) i w
  have HT := fun (i : Nat) (hi : i ≤ 1000) w => time_any L (by omega) i hi w
  have HS := fun (i : Nat) (hi : i ≤ 100) w => some_any L hL i hi w
  have HK := fun (i : Nat) (hi : i ≤ 100) w => askd_any L hL i hi w
  have hSh := RSh.parse L hL
  have HB : Hid (getB L = (recR (parseN L) && decide (putL (parseN L) = L))) := rfl
  have h0 := HA 0
  by_cases k1 : atN L 0 = 1
  · skip
    have hP : parseN L = ⟨1, ⟨someN L (atN L 11) 12, atN L 1, atN L 2, atN L 3, timeN L 5, atN L 4⟩, [], 0, 0, []⟩ := by unfold parseN; rw [if_pos k1]
    rw [hP] at hSh HB
    rw [hP]
    rw [k1] at h0
    have h1 := HA 1
    have h2 := HA 2
    have h3 := HA 3
    have h4 := HA 4
    have h5 := HT 5 (by omega)
    have h6 := HS 11 (by omega)
    clear HA HT HS HK hP k1
    obtain ⟨s, hs⟩ : ∃ s, tx L = s := ⟨_, rfl⟩
    rw [hs] at h0 h1 h2 h3 h4 h5 h6
    rw [hs]
    obtain ⟨QB, hQB⟩ : ∃ QB, Hid (getB L = QB) := ⟨_, rfl⟩
    rw [hQB.out] at HB
    rw [hQB.out]
    clear hQB
    generalize someN L (atN L 11) (11 + 1) = S at *
    generalize ((atN L 1 : Nat) : Int) = a1 at *
    generalize ((atN L 2 : Nat) : Int) = a2 at *
    generalize ((atN L 3 : Nat) : Int) = a3 at *
    generalize ((atN L 4 : Nat) : Int) = a4 at *
    generalize ((timeN L 5 : Nat) : Int) = a5 at *
    have HQ := HB
    clear HB
    have HRt := fun (o1 : Option Addr) (n1 c1 : Nat) (o2 : Option Addr) (n2 c2 : Nat) (o3 : Option Addr) (n3 c3 : Nat) (w : World) (h : RAt w o1 n1 c1 o2 n2 c2 o3 n3 c3 ⟨1, ⟨S, a1, a2, a3, a5, a4⟩, [], 0, 0, []⟩) => refRec_any o1 n1 c1 o2 n2 c2 o3 n3 c3 _ w h hSh
    have HPt := fun (o1 : Option Addr) (n1 c1 : Nat) (o2 : Option Addr) (n2 c2 : Nat) (o3 : Option Addr) (n3 c3 : Nat) (w : World) (h : RAt w o1 n1 c1 o2 n2 c2 o3 n3 c3 ⟨1, ⟨S, a1, a2, a3, a5, a4⟩, [], 0, 0, []⟩) (hr : recR ⟨1, ⟨S, a1, a2, a3, a5, a4⟩, [], 0, 0, []⟩ = true) => refPut_any o1 n1 c1 o2 n2 c2 o3 n3 c3 _ w h hr
    obtain ⟨VA0, VB0, B0⟩ := pair_boxes w 29 29 zRV #[.int .i64 1, .slice none 0 0, .int .i64 0, .int .i64 0, .int .i64 0, .int .i64 0, .int .i64 0, .slice none 0 0, .int .i64 0, .int .i64 0, .slice none 0 0]
    go_enter Try.func14, Try.ntmps14
    go_wp2_with fail
    refine (h0 _).mono ?_
    rintro e w0 ⟨rfl, rfl⟩
    go_wp2_with fail
    generalize (w.alloc _).alloc _ = w1 at *
    refine (h1 _).mono ?_
    rintro e w0 ⟨rfl, rfl⟩
    go_wp2_with fail
    refine (h2 _).mono ?_
    rintro e w0 ⟨rfl, rfl⟩
    go_wp2_with fail
    refine (h3 _).mono ?_
    rintro e w0 ⟨rfl, rfl⟩
    go_wp2_with fail
    refine (h4 _).mono ?_
    rintro e w0 ⟨rfl, rfl⟩
    go_wp2_with fail
    refine (h5 _).mono ?_
    rintro e w0 ⟨rfl, rfl⟩
    go_wp2_with fail
    refine (h6 _).mono ?_
    rintro e w2 ⟨⟨oa, n, cp, rfl, hL, hn⟩, B1⟩
    have VA2 := VA0.keep B1 (Nat.le_refl _)
    have VB2 := VB0.keep B1 (Nat.le_refl _)
    have B2 := B0.trans (B1.mono B0.size)
    clear VA0 VB0 B0 B1 h0 h1 h2 h3 h4 h5 h6
    have f1 := VB2.free 1
    have u1 : w2.cell? ⟨w.heap.size + 1, 1, none⟩ = some (.slice none 0 0) := VB2.cell 1
    have f2 := VB2.free 2
    have u2 : w2.cell? ⟨w.heap.size + 1, 2, none⟩ = some (.int .i64 0) := VB2.cell 2
    have f3 := VB2.free 3
    have u3 : w2.cell? ⟨w.heap.size + 1, 3, none⟩ = some (.int .i64 0) := VB2.cell 3
    have f4 := VB2.free 4
    have u4 : w2.cell? ⟨w.heap.size + 1, 4, none⟩ = some (.int .i64 0) := VB2.cell 4
    have f5 := VB2.free 5
    have u5 : w2.cell? ⟨w.heap.size + 1, 5, none⟩ = some (.int .i64 0) := VB2.cell 5
    have f6 := VB2.free 6
    have u6 : w2.cell? ⟨w.heap.size + 1, 6, none⟩ = some (.int .i64 0) := VB2.cell 6
    have VB : Vals ((((((w2.setCell ⟨w.heap.size + 1, 1, none⟩ (.slice oa n cp)).setCell ⟨w.heap.size + 1, 2, none⟩ (.int .i64 a1)).setCell ⟨w.heap.size + 1, 3, none⟩ (.int .i64 a2)).setCell ⟨w.heap.size + 1, 4, none⟩ (.int .i64 a3)).setCell ⟨w.heap.size + 1, 5, none⟩ (.int .i64 a5)).setCell ⟨w.heap.size + 1, 6, none⟩ (.int .i64 a4)) (w.heap.size + 1) 29 #[.int .i64 1, .slice oa n cp, .int .i64 a1, .int .i64 a2, .int .i64 a3, .int .i64 a5, .int .i64 a4, .slice none 0 0, .int .i64 0, .int .i64 0, .slice none 0 0] := by
      have := ((((((VB2.set 1 (.slice oa n cp)).set 2 (.int .i64 a1)).set 3 (.int .i64 a2)).set 4 (.int .i64 a3)).set 5 (.int .i64 a5)).set 6 (.int .i64 a4))
      simpa using this
    have VA := ((((((VA2.other (B := w.heap.size + 1) (by omega) 1 (.slice oa n cp)).other (B := w.heap.size + 1) (by omega) 2 (.int .i64 a1)).other (B := w.heap.size + 1) (by omega) 3 (.int .i64 a2)).other (B := w.heap.size + 1) (by omega) 4 (.int .i64 a3)).other (B := w.heap.size + 1) (by omega) 5 (.int .i64 a5)).other (B := w.heap.size + 1) (by omega) 6 (.int .i64 a4))
    have hO := (((((((OnlyAt.refl (w.heap.size + 1) w2).set 1 (.slice oa n cp)).set 2 (.int .i64 a1)).set 3 (.int .i64 a2)).set 4 (.int .i64 a3)).set 5 (.int .i64 a5)).set 6 (.int .i64 a4))
    have hR : RAt ((((((w2.setCell ⟨w.heap.size + 1, 1, none⟩ (.slice oa n cp)).setCell ⟨w.heap.size + 1, 2, none⟩ (.int .i64 a1)).setCell ⟨w.heap.size + 1, 3, none⟩ (.int .i64 a2)).setCell ⟨w.heap.size + 1, 4, none⟩ (.int .i64 a3)).setCell ⟨w.heap.size + 1, 5, none⟩ (.int .i64 a5)).setCell ⟨w.heap.size + 1, 6, none⟩ (.int .i64 a4)) oa n cp none 0 0 none 0 0 (⟨1, ⟨S, a1, a2, a3, a5, a4⟩, [], 0, 0, []⟩ : Rc) := ⟨hO.lies hL VB2 (rec_no_text _ _ _ _ _ _ _ _ _ _ _ _ _ _ _ _ _), Ls.nil _ _ _, Ms.nil _ _ _, by omega, by omega, by omega⟩
    clear hL
    have BW := ((((((B2.setCell (p := ⟨w.heap.size + 1, 1, none⟩) (by show w.heap.size ≤ w.heap.size + 1; omega) (.slice oa n cp)).setCell (p := ⟨w.heap.size + 1, 2, none⟩) (by show w.heap.size ≤ w.heap.size + 1; omega) (.int .i64 a1)).setCell (p := ⟨w.heap.size + 1, 3, none⟩) (by show w.heap.size ≤ w.heap.size + 1; omega) (.int .i64 a2)).setCell (p := ⟨w.heap.size + 1, 4, none⟩) (by show w.heap.size ≤ w.heap.size + 1; omega) (.int .i64 a3)).setCell (p := ⟨w.heap.size + 1, 5, none⟩) (by show w.heap.size ≤ w.heap.size + 1; omega) (.int .i64 a5)).setCell (p := ⟨w.heap.size + 1, 6, none⟩) (by show w.heap.size ≤ w.heap.size + 1; omega) (.int .i64 a4))
    have hBW := BW.size
    have u0 : ((((((w2.setCell ⟨w.heap.size + 1, 1, none⟩ (.slice oa n cp)).setCell ⟨w.heap.size + 1, 2, none⟩ (.int .i64 a1)).setCell ⟨w.heap.size + 1, 3, none⟩ (.int .i64 a2)).setCell ⟨w.heap.size + 1, 4, none⟩ (.int .i64 a3)).setCell ⟨w.heap.size + 1, 5, none⟩ (.int .i64 a5)).setCell ⟨w.heap.size + 1, 6, none⟩ (.int .i64 a4)).cell? ⟨w.heap.size + 1, 0, none⟩ = some (.int .i64 1) := VB.cell 0
    clear VA2 VB2 B2 hO
    go_wp2_with fail
    clear f1 u1 f2 u2 f3 u3 f4 u4 f5 u5 f6 u6 u0
    generalize hWW : ((((((w2.setCell ⟨w.heap.size + 1, 1, none⟩ (.slice oa n cp)).setCell ⟨w.heap.size + 1, 2, none⟩ (.int .i64 a1)).setCell ⟨w.heap.size + 1, 3, none⟩ (.int .i64 a2)).setCell ⟨w.heap.size + 1, 4, none⟩ (.int .i64 a3)).setCell ⟨w.heap.size + 1, 5, none⟩ (.int .i64 a5)).setCell ⟨w.heap.size + 1, 6, none⟩ (.int .i64 a4)) = W at *
    have p0 : W.cell? ⟨w.heap.size + 1, 0, none⟩ = some (.int .i64 1) := VB.cell 0
    have p1 : W.cell? ⟨w.heap.size + 1, 1, none⟩ = some (.slice oa n cp) := VB.cell 1
    have p2 : W.cell? ⟨w.heap.size + 1, 2, none⟩ = some (.int .i64 a1) := VB.cell 2
    have p3 : W.cell? ⟨w.heap.size + 1, 3, none⟩ = some (.int .i64 a2) := VB.cell 3
    have p4 : W.cell? ⟨w.heap.size + 1, 4, none⟩ = some (.int .i64 a3) := VB.cell 4
    have p5 : W.cell? ⟨w.heap.size + 1, 5, none⟩ = some (.int .i64 a5) := VB.cell 5
    have p6 : W.cell? ⟨w.heap.size + 1, 6, none⟩ = some (.int .i64 a4) := VB.cell 6
    have p7 : W.cell? ⟨w.heap.size + 1, 7, none⟩ = some (.slice none 0 0) := VB.cell 7
    have p8 : W.cell? ⟨w.heap.size + 1, 8, none⟩ = some (.int .i64 0) := VB.cell 8
    have p9 : W.cell? ⟨w.heap.size + 1, 9, none⟩ = some (.int .i64 0) := VB.cell 9
    have p10 : W.cell? ⟨w.heap.size + 1, 10, none⟩ = some (.slice none 0 0) := VB.cell 10
    have d0 : W.drew.cell? ⟨w.heap.size + 1, 0, none⟩ = some (.int .i64 1) := p0
    have d1 : W.drew.cell? ⟨w.heap.size + 1, 1, none⟩ = some (.slice oa n cp) := p1
    have d2 : W.drew.cell? ⟨w.heap.size + 1, 2, none⟩ = some (.int .i64 a1) := p2
    have d3 : W.drew.cell? ⟨w.heap.size + 1, 3, none⟩ = some (.int .i64 a2) := p3
    have d4 : W.drew.cell? ⟨w.heap.size + 1, 4, none⟩ = some (.int .i64 a3) := p4
    have d5 : W.drew.cell? ⟨w.heap.size + 1, 5, none⟩ = some (.int .i64 a5) := p5
    have d6 : W.drew.cell? ⟨w.heap.size + 1, 6, none⟩ = some (.int .i64 a4) := p6
    have d7 : W.drew.cell? ⟨w.heap.size + 1, 7, none⟩ = some (.slice none 0 0) := p7
    have d8 : W.drew.cell? ⟨w.heap.size + 1, 8, none⟩ = some (.int .i64 0) := p8
    have d9 : W.drew.cell? ⟨w.heap.size + 1, 9, none⟩ = some (.int .i64 0) := p9
    have d10 : W.drew.cell? ⟨w.heap.size + 1, 10, none⟩ = some (.slice none 0 0) := p10
    have hz1 : ∀ i : Nat, (⟨w.heap.size + 1, i, none⟩ : Addr).block ≠ w.heap.size := fun i => by show w.heap.size + 1 ≠ _; omega
    have hS4 : Hid (w.heap.size ≤ W.drew.heap.size) := by show w.heap.size ≤ W.heap.size; exact hBW
    have hRd := hR.below (Below.refl _ W).drew (Nat.le_refl _)
    have BWd := BW.drew
    clear VB hR hBW BW
    cases hr : recR (⟨1, ⟨S, a1, a2, a3, a5, a4⟩, [], 0, 0, []⟩) with
    | false =>
      have HR1 := HRt oa n cp none 0 0 none 0 0 _ hRd
      rw [hr] at HR1 HQ
      clear hr HRt HPt
      refine wp_region_held_drew (S := (fun w' => w'.cell? ⟨w.heap.size + 1, 0, none⟩ = some (.int .i64 1) ∧ w'.cell? ⟨w.heap.size + 1, 1, none⟩ = some (.slice oa n cp) ∧ w'.cell? ⟨w.heap.size + 1, 2, none⟩ = some (.int .i64 a1) ∧ w'.cell? ⟨w.heap.size + 1, 3, none⟩ = some (.int .i64 a2) ∧ w'.cell? ⟨w.heap.size + 1, 4, none⟩ = some (.int .i64 a3) ∧ w'.cell? ⟨w.heap.size + 1, 5, none⟩ = some (.int .i64 a5) ∧ w'.cell? ⟨w.heap.size + 1, 6, none⟩ = some (.int .i64 a4) ∧ w'.cell? ⟨w.heap.size + 1, 7, none⟩ = some (.slice none 0 0) ∧ w'.cell? ⟨w.heap.size + 1, 8, none⟩ = some (.int .i64 0) ∧ w'.cell? ⟨w.heap.size + 1, 9, none⟩ = some (.int .i64 0) ∧ w'.cell? ⟨w.heap.size + 1, 10, none⟩ = some (.slice none 0 0))) (by kernel_rfl) ?_ (fun hHeld => ?_)
      · exact ⟨d0, d1, d2, d3, d4, d5, d6, d7, d8, d9, d10⟩
      refine wpAnyH_take (i := 0) (v := .agg #[.int .i64 1, .slice oa n cp, .int .i64 a1, .int .i64 a2, .int .i64 a3, .int .i64 a5, .int .i64 a4, .slice none 0 0, .int .i64 0, .int .i64 0, .slice none 0 0]) rfl (by kernel_rfl) (by kernel_rfl) (by kernel_rfl) (fun _ _ _ h => h) (Or.inl ⟨by rfl, fun w hSw => by (try dsimp only at hSw); go_simp⟩) (by assumption) ?_
      try simp only [Act.put, List.setIfInBounds_toArray, List.set_cons_zero, List.set_cons_succ]
      refine wpAnyH_take (i := 1) (v := .agg #[.int .i64 1, .slice oa n cp, .int .i64 a1, .int .i64 a2, .int .i64 a3, .int .i64 a5, .int .i64 a4, .slice none 0 0, .int .i64 0, .int .i64 0, .slice none 0 0]) rfl (by kernel_rfl) (by kernel_rfl) (by kernel_rfl) (fun _ _ _ h => h) (Or.inl ⟨by rfl, fun w hSw => by (try dsimp only at hSw); go_simp⟩) (by assumption) ?_
      try simp only [Act.put, List.setIfInBounds_toArray, List.set_cons_zero, List.set_cons_succ]
      refine wpAnyH_ready (rs := [2]) (by kernel_rfl) (by simp) ?_
      refine AllReadyH.cons rfl (fun K hK => ?_) AllReadyH.nil
      go_simp
      refine HR1.mono ?_; rintro e W2 ⟨rfl, BB⟩; have hR := hRd.below BB (Nat.le_refl _); have p0 := keepR (w := W.drew) BB p0; have p1 := keepR (w := W.drew) BB p1; have p2 := keepR (w := W.drew) BB p2; have p3 := keepR (w := W.drew) BB p3; have p4 := keepR (w := W.drew) BB p4; have p5 := keepR (w := W.drew) BB p5; have p6 := keepR (w := W.drew) BB p6; have p7 := keepR (w := W.drew) BB p7; have p8 := keepR (w := W.drew) BB p8; have p9 := keepR (w := W.drew) BB p9; have p10 := keepR (w := W.drew) BB p10; have VA := Vals.keep (w := W.drew) VA BB (Nat.le_refl _); have BW := BWd.trans (BB.mono hS4.out); have g0 := VA.free 0; have g1 := VA.free 1; have g2 := VA.free 2; have g3 := VA.free 3; have g4 := VA.free 4; have g5 := VA.free 5; have g6 := VA.free 6; have g7 := VA.free 7; have g8 := VA.free 8; have g9 := VA.free 9; have g10 := VA.free 10; have u0 : W2.cell? ⟨w.heap.size, 0, none⟩ = some (.int .i64 0) := VA.cell 0; have u1 : W2.cell? ⟨w.heap.size, 1, none⟩ = some (.slice none 0 0) := VA.cell 1; have u2 : W2.cell? ⟨w.heap.size, 2, none⟩ = some (.int .i64 0) := VA.cell 2; have u3 : W2.cell? ⟨w.heap.size, 3, none⟩ = some (.int .i64 0) := VA.cell 3; have u4 : W2.cell? ⟨w.heap.size, 4, none⟩ = some (.int .i64 0) := VA.cell 4; have u5 : W2.cell? ⟨w.heap.size, 5, none⟩ = some (.int .i64 0) := VA.cell 5; have u6 : W2.cell? ⟨w.heap.size, 6, none⟩ = some (.int .i64 0) := VA.cell 6; have u7 : W2.cell? ⟨w.heap.size, 7, none⟩ = some (.slice none 0 0) := VA.cell 7; have u8 : W2.cell? ⟨w.heap.size, 8, none⟩ = some (.int .i64 0) := VA.cell 8; have u9 : W2.cell? ⟨w.heap.size, 9, none⟩ = some (.int .i64 0) := VA.cell 9; have u10 : W2.cell? ⟨w.heap.size, 10, none⟩ = some (.slice none 0 0) := VA.cell 10; have q0 := eleven_keep p0 (hz1 0) (.int .i64 1) (.slice oa n cp) (.int .i64 a1) (.int .i64 a2) (.int .i64 a3) (.int .i64 a5) (.int .i64 a4) (.slice none 0 0) (.int .i64 0) (.int .i64 0) (.slice none 0 0); have q1 := eleven_keep p1 (hz1 1) (.int .i64 1) (.slice oa n cp) (.int .i64 a1) (.int .i64 a2) (.int .i64 a3) (.int .i64 a5) (.int .i64 a4) (.slice none 0 0) (.int .i64 0) (.int .i64 0) (.slice none 0 0); have q2 := eleven_keep p2 (hz1 2) (.int .i64 1) (.slice oa n cp) (.int .i64 a1) (.int .i64 a2) (.int .i64 a3) (.int .i64 a5) (.int .i64 a4) (.slice none 0 0) (.int .i64 0) (.int .i64 0) (.slice none 0 0); have q3 := eleven_keep p3 (hz1 3) (.int .i64 1) (.slice oa n cp) (.int .i64 a1) (.int .i64 a2) (.int .i64 a3) (.int .i64 a5) (.int .i64 a4) (.slice none 0 0) (.int .i64 0) (.int .i64 0) (.slice none 0 0); have q4 := eleven_keep p4 (hz1 4) (.int .i64 1) (.slice oa n cp) (.int .i64 a1) (.int .i64 a2) (.int .i64 a3) (.int .i64 a5) (.int .i64 a4) (.slice none 0 0) (.int .i64 0) (.int .i64 0) (.slice none 0 0); have q5 := eleven_keep p5 (hz1 5) (.int .i64 1) (.slice oa n cp) (.int .i64 a1) (.int .i64 a2) (.int .i64 a3) (.int .i64 a5) (.int .i64 a4) (.slice none 0 0) (.int .i64 0) (.int .i64 0) (.slice none 0 0); have q6 := eleven_keep p6 (hz1 6) (.int .i64 1) (.slice oa n cp) (.int .i64 a1) (.int .i64 a2) (.int .i64 a3) (.int .i64 a5) (.int .i64 a4) (.slice none 0 0) (.int .i64 0) (.int .i64 0) (.slice none 0 0); have q7 := eleven_keep p7 (hz1 7) (.int .i64 1) (.slice oa n cp) (.int .i64 a1) (.int .i64 a2) (.int .i64 a3) (.int .i64 a5) (.int .i64 a4) (.slice none 0 0) (.int .i64 0) (.int .i64 0) (.slice none 0 0); have q8 := eleven_keep p8 (hz1 8) (.int .i64 1) (.slice oa n cp) (.int .i64 a1) (.int .i64 a2) (.int .i64 a3) (.int .i64 a5) (.int .i64 a4) (.slice none 0 0) (.int .i64 0) (.int .i64 0) (.slice none 0 0); have q9 := eleven_keep p9 (hz1 9) (.int .i64 1) (.slice oa n cp) (.int .i64 a1) (.int .i64 a2) (.int .i64 a3) (.int .i64 a5) (.int .i64 a4) (.slice none 0 0) (.int .i64 0) (.int .i64 0) (.slice none 0 0); have q10 := eleven_keep p10 (hz1 10) (.int .i64 1) (.slice oa n cp) (.int .i64 a1) (.int .i64 a2) (.int .i64 a3) (.int .i64 a5) (.int .i64 a4) (.slice none 0 0) (.int .i64 0) (.int .i64 0) (.slice none 0 0)
      go_wp2_with fail
      refine hK.out _ _ ?_ (fun hHeld => ?_)
      · with_reducible exact ⟨p0, p1, p2, p3, p4, p5, p6, p7, p8, p9, p10⟩
      clear hK K
      try simp only [Act.put, List.setIfInBounds_toArray, List.set_cons_zero, List.set_cons_succ]
      refine wpAnyH_take (i := 3) (v := .bool false) rfl (by kernel_rfl) (by kernel_rfl) (by kernel_rfl) (fun _ _ _ h => h) (Or.inl ⟨by rfl, fun w hSw => by (try dsimp only at hSw); go_simp⟩) (by assumption) ?_
      try simp only [Act.put, List.setIfInBounds_toArray, List.set_cons_zero, List.set_cons_succ]
      refine wpAnyH_take (i := 4) (v := undef) rfl (by kernel_rfl) (by kernel_rfl) (by kernel_rfl) (fun _ _ _ h => h) (Or.inr ⟨by rfl, rfl⟩) (by assumption) ?_
      try simp only [Act.put, List.setIfInBounds_toArray, List.set_cons_zero, List.set_cons_succ]
      refine wpAnyH_take (i := 6) (v := undef) rfl (by kernel_rfl) (by kernel_rfl) (by kernel_rfl) (fun _ _ _ h => h) (Or.inr ⟨by rfl, rfl⟩) (by assumption) ?_
      try simp only [Act.put, List.setIfInBounds_toArray, List.set_cons_zero, List.set_cons_succ]
      refine wpAnyH_take (i := 5) (v := undef) rfl (by kernel_rfl) (by kernel_rfl) (by kernel_rfl) (fun _ _ _ h => h) (Or.inr ⟨by rfl, rfl⟩) (by assumption) ?_
      try simp only [Act.put, List.setIfInBounds_toArray, List.set_cons_zero, List.set_cons_succ]
      refine wpAnyH_take (i := 7) (v := undef) rfl (by kernel_rfl) (by kernel_rfl) (by kernel_rfl) (fun _ _ _ h => h) (Or.inr ⟨by rfl, rfl⟩) (by assumption) ?_
      try simp only [Act.put, List.setIfInBounds_toArray, List.set_cons_zero, List.set_cons_succ]
      refine wpAnyH_take (i := 8) (v := .bool false) rfl (by kernel_rfl) (by kernel_rfl) (by kernel_rfl) (fun _ _ _ h => h) (Or.inl ⟨by rfl, fun w hSw => by (try dsimp only at hSw); go_simp⟩) (by assumption) ?_
      try simp only [Act.put, List.setIfInBounds_toArray, List.set_cons_zero, List.set_cons_succ]
      refine wpAnyH_ready (rs := [9]) (by kernel_rfl) (by simp) ?_
      refine AllReadyH.cons rfl (fun K hK => ?_) AllReadyH.nil
      go_simp
      refine hK.out _ _ ?_ (fun hHeld => ?_)
      · with_reducible exact ⟨q0, q1, q2, q3, q4, q5, q6, q7, q8, q9, q10⟩
      clear hK K
      try simp only [Act.put, List.setIfInBounds_toArray, List.set_cons_zero, List.set_cons_succ]
      refine wpAnyH_ready (rs := [10]) (by kernel_rfl) (by simp) ?_
      refine AllReadyH.cons rfl (fun K hK => ?_) AllReadyH.nil
      go_simp
      refine hK.out _ _ ?_ (fun hHeld => ?_)
      · with_reducible exact ⟨q0, q1, q2, q3, q4, q5, q6, q7, q8, q9, q10⟩
      clear hK K
      try simp only [Act.put, List.setIfInBounds_toArray, List.set_cons_zero, List.set_cons_succ]
      refine wpAnyH_done (by kernel_rfl) ?_ _
      all_goals
        have VE := VA.eleven (.int .i64 1) (.slice oa n cp) (.int .i64 a1) (.int .i64 a2) (.int .i64 a3) (.int .i64 a5) (.int .i64 a4) (.slice none 0 0) (.int .i64 0) (.int .i64 0) (.slice none 0 0)
        have hRE := ((((((((((((OnlyAt.refl w.heap.size W2).set 0 (.int .i64 1)).set 1 (.slice oa n cp)).set 2 (.int .i64 a1)).set 3 (.int .i64 a2)).set 4 (.int .i64 a3)).set 5 (.int .i64 a5)).set 6 (.int .i64 a4)).set 7 (.slice none 0 0)).set 8 (.int .i64 0)).set 9 (.int .i64 0)).set 10 (.slice none 0 0)).rec hR VA (rec_no_text _ _ _ _ _ _ _ _ _ _ _ _ _ _ _ _ _)
        clear p0 d0 q0 g0 u0 p1 d1 q1 g1 u1 p2 d2 q2 g2 u2 p3 d3 q3 g3 u3 p4 d4 q4 g4 u4 p5 d5 q5 g5 u5 p6 d6 q6 g6 u6 p7 d7 q7 g7 u7 p8 d8 q8 g8 u8 p9 d9 q9 g9 u9 p10 d10 q10 g10 u10
        go_wp2_with fail
        refine bodyPost_ret (retG (k := 1) (v1 := .slice oa n cp) (d := ⟨S, a1, a2, a3, a5, a4⟩) (v2 := .slice none 0 0) (f := 0) (t := 0) (v3 := .slice none 0 0) rfl rfl rfl VE) rfl ?_
        exact ⟨⟨_, _, _, _, _, _, _, _, _, by rw [HQ.out]; rfl, hRE⟩, below_eleven BW (Nat.le_refl _) _ _ _ _ _ _ _ _ _ _ _⟩
    | true =>
      have HR1 := HRt oa n cp none 0 0 none 0 0 _ hRd
      rw [hr] at HR1 HQ
      have HP1 := fun (w5 : World) (h : RAt w5 oa n cp none 0 0 none 0 0 (⟨1, ⟨S, a1, a2, a3, a5, a4⟩, [], 0, 0, []⟩)) => HPt oa n cp none 0 0 none 0 0 w5 h hr
      have hq := tx_beq (putL (⟨1, ⟨S, a1, a2, a3, a5, a4⟩, [], 0, 0, []⟩)) L
      rw [hs] at hq
      rw [Bool.true_and] at HQ
      generalize tx (putL (⟨1, ⟨S, a1, a2, a3, a5, a4⟩, [], 0, 0, []⟩)) = y at *
      generalize decide (putL (⟨1, ⟨S, a1, a2, a3, a5, a4⟩, [], 0, 0, []⟩) = L) = Q at *
      clear hr HRt HPt
      go_region_held3 (fun w' => w'.cell? ⟨w.heap.size + 1, 0, none⟩ = some (.int .i64 1) ∧ w'.cell? ⟨w.heap.size + 1, 1, none⟩ = some (.slice oa n cp) ∧ w'.cell? ⟨w.heap.size + 1, 2, none⟩ = some (.int .i64 a1) ∧ w'.cell? ⟨w.heap.size + 1, 3, none⟩ = some (.int .i64 a2) ∧ w'.cell? ⟨w.heap.size + 1, 4, none⟩ = some (.int .i64 a3) ∧ w'.cell? ⟨w.heap.size + 1, 5, none⟩ = some (.int .i64 a5) ∧ w'.cell? ⟨w.heap.size + 1, 6, none⟩ = some (.int .i64 a4) ∧ w'.cell? ⟨w.heap.size + 1, 7, none⟩ = some (.slice none 0 0) ∧ w'.cell? ⟨w.heap.size + 1, 8, none⟩ = some (.int .i64 0) ∧ w'.cell? ⟨w.heap.size + 1, 9, none⟩ = some (.int .i64 0) ∧ w'.cell? ⟨w.heap.size + 1, 10, none⟩ = some (.slice none 0 0))
        (first | with_reducible exact ⟨d0, d1, d2, d3, d4, d5, d6, d7, d8, d9, d10⟩ | with_reducible exact ⟨p0, p1, p2, p3, p4, p5, p6, p7, p8, p9, p10⟩ | with_reducible exact ⟨q0, q1, q2, q3, q4, q5, q6, q7, q8, q9, q10⟩)
        (first | (go_at_call 10; refine HR1.mono ?_; rintro e W2 ⟨rfl, BB⟩; have hR := hRd.below BB (Nat.le_refl _); have p0 := keepR (w := W.drew) BB p0; have p1 := keepR (w := W.drew) BB p1; have p2 := keepR (w := W.drew) BB p2; have p3 := keepR (w := W.drew) BB p3; have p4 := keepR (w := W.drew) BB p4; have p5 := keepR (w := W.drew) BB p5; have p6 := keepR (w := W.drew) BB p6; have p7 := keepR (w := W.drew) BB p7; have p8 := keepR (w := W.drew) BB p8; have p9 := keepR (w := W.drew) BB p9; have p10 := keepR (w := W.drew) BB p10; have VA := Vals.keep (w := W.drew) VA BB (Nat.le_refl _); have BW := BWd.trans (BB.mono hS4.out)) | (go_at_call 12; refine (HP1 _ hR).mono ?_; rintro e W3 ⟨rfl, BB⟩; have hR := hR.below BB (Nat.le_refl _); have p0 := keepR BB p0; have p1 := keepR BB p1; have p2 := keepR BB p2; have p3 := keepR BB p3; have p4 := keepR BB p4; have p5 := keepR BB p5; have p6 := keepR BB p6; have p7 := keepR BB p7; have p8 := keepR BB p8; have p9 := keepR BB p9; have p10 := keepR BB p10; have VA := VA.keep BB (Nat.le_refl _); have BW := BW.trans (BB.mono BW.size); have g0 := VA.free 0; have g1 := VA.free 1; have g2 := VA.free 2; have g3 := VA.free 3; have g4 := VA.free 4; have g5 := VA.free 5; have g6 := VA.free 6; have g7 := VA.free 7; have g8 := VA.free 8; have g9 := VA.free 9; have g10 := VA.free 10; have u0 : W3.cell? ⟨w.heap.size, 0, none⟩ = some (.int .i64 0) := VA.cell 0; have u1 : W3.cell? ⟨w.heap.size, 1, none⟩ = some (.slice none 0 0) := VA.cell 1; have u2 : W3.cell? ⟨w.heap.size, 2, none⟩ = some (.int .i64 0) := VA.cell 2; have u3 : W3.cell? ⟨w.heap.size, 3, none⟩ = some (.int .i64 0) := VA.cell 3; have u4 : W3.cell? ⟨w.heap.size, 4, none⟩ = some (.int .i64 0) := VA.cell 4; have u5 : W3.cell? ⟨w.heap.size, 5, none⟩ = some (.int .i64 0) := VA.cell 5; have u6 : W3.cell? ⟨w.heap.size, 6, none⟩ = some (.int .i64 0) := VA.cell 6; have u7 : W3.cell? ⟨w.heap.size, 7, none⟩ = some (.slice none 0 0) := VA.cell 7; have u8 : W3.cell? ⟨w.heap.size, 8, none⟩ = some (.int .i64 0) := VA.cell 8; have u9 : W3.cell? ⟨w.heap.size, 9, none⟩ = some (.int .i64 0) := VA.cell 9; have u10 : W3.cell? ⟨w.heap.size, 10, none⟩ = some (.slice none 0 0) := VA.cell 10; have q0 := eleven_keep p0 (hz1 0) (.int .i64 1) (.slice oa n cp) (.int .i64 a1) (.int .i64 a2) (.int .i64 a3) (.int .i64 a5) (.int .i64 a4) (.slice none 0 0) (.int .i64 0) (.int .i64 0) (.slice none 0 0); have q1 := eleven_keep p1 (hz1 1) (.int .i64 1) (.slice oa n cp) (.int .i64 a1) (.int .i64 a2) (.int .i64 a3) (.int .i64 a5) (.int .i64 a4) (.slice none 0 0) (.int .i64 0) (.int .i64 0) (.slice none 0 0); have q2 := eleven_keep p2 (hz1 2) (.int .i64 1) (.slice oa n cp) (.int .i64 a1) (.int .i64 a2) (.int .i64 a3) (.int .i64 a5) (.int .i64 a4) (.slice none 0 0) (.int .i64 0) (.int .i64 0) (.slice none 0 0); have q3 := eleven_keep p3 (hz1 3) (.int .i64 1) (.slice oa n cp) (.int .i64 a1) (.int .i64 a2) (.int .i64 a3) (.int .i64 a5) (.int .i64 a4) (.slice none 0 0) (.int .i64 0) (.int .i64 0) (.slice none 0 0); have q4 := eleven_keep p4 (hz1 4) (.int .i64 1) (.slice oa n cp) (.int .i64 a1) (.int .i64 a2) (.int .i64 a3) (.int .i64 a5) (.int .i64 a4) (.slice none 0 0) (.int .i64 0) (.int .i64 0) (.slice none 0 0); have q5 := eleven_keep p5 (hz1 5) (.int .i64 1) (.slice oa n cp) (.int .i64 a1) (.int .i64 a2) (.int .i64 a3) (.int .i64 a5) (.int .i64 a4) (.slice none 0 0) (.int .i64 0) (.int .i64 0) (.slice none 0 0); have q6 := eleven_keep p6 (hz1 6) (.int .i64 1) (.slice oa n cp) (.int .i64 a1) (.int .i64 a2) (.int .i64 a3) (.int .i64 a5) (.int .i64 a4) (.slice none 0 0) (.int .i64 0) (.int .i64 0) (.slice none 0 0); have q7 := eleven_keep p7 (hz1 7) (.int .i64 1) (.slice oa n cp) (.int .i64 a1) (.int .i64 a2) (.int .i64 a3) (.int .i64 a5) (.int .i64 a4) (.slice none 0 0) (.int .i64 0) (.int .i64 0) (.slice none 0 0); have q8 := eleven_keep p8 (hz1 8) (.int .i64 1) (.slice oa n cp) (.int .i64 a1) (.int .i64 a2) (.int .i64 a3) (.int .i64 a5) (.int .i64 a4) (.slice none 0 0) (.int .i64 0) (.int .i64 0) (.slice none 0 0); have q9 := eleven_keep p9 (hz1 9) (.int .i64 1) (.slice oa n cp) (.int .i64 a1) (.int .i64 a2) (.int .i64 a3) (.int .i64 a5) (.int .i64 a4) (.slice none 0 0) (.int .i64 0) (.int .i64 0) (.slice none 0 0); have q10 := eleven_keep p10 (hz1 10) (.int .i64 1) (.slice oa n cp) (.int .i64 a1) (.int .i64 a2) (.int .i64 a3) (.int .i64 a5) (.int .i64 a4) (.slice none 0 0) (.int .i64 0) (.int .i64 0) (.slice none 0 0)))
      all_goals
        have VE := VA.eleven (.int .i64 1) (.slice oa n cp) (.int .i64 a1) (.int .i64 a2) (.int .i64 a3) (.int .i64 a5) (.int .i64 a4) (.slice none 0 0) (.int .i64 0) (.int .i64 0) (.slice none 0 0)
        have hRE := ((((((((((((OnlyAt.refl w.heap.size W3).set 0 (.int .i64 1)).set 1 (.slice oa n cp)).set 2 (.int .i64 a1)).set 3 (.int .i64 a2)).set 4 (.int .i64 a3)).set 5 (.int .i64 a5)).set 6 (.int .i64 a4)).set 7 (.slice none 0 0)).set 8 (.int .i64 0)).set 9 (.int .i64 0)).set 10 (.slice none 0 0)).rec hR VA (rec_no_text _ _ _ _ _ _ _ _ _ _ _ _ _ _ _ _ _)
        clear p0 d0 q0 g0 u0 p1 d1 q1 g1 u1 p2 d2 q2 g2 u2 p3 d3 q3 g3 u3 p4 d4 q4 g4 u4 p5 d5 q5 g5 u5 p6 d6 q6 g6 u6 p7 d7 q7 g7 u7 p8 d8 q8 g8 u8 p9 d9 q9 g9 u9 p10 d10 q10 g10 u10
        go_wp2_with fail
        refine bodyPost_ret (retG (k := 1) (v1 := .slice oa n cp) (d := ⟨S, a1, a2, a3, a5, a4⟩) (v2 := .slice none 0 0) (f := 0) (t := 0) (v3 := .slice none 0 0) rfl rfl rfl VE) rfl ?_
        exact ⟨⟨_, _, _, _, _, _, _, _, _, by rw [HQ.out]; rfl, hRE⟩, below_eleven BW (Nat.le_refl _) _ _ _ _ _ _ _ _ _ _ _⟩
  · by_cases k2 : atN L 0 = 2
    · skip
      have hP : parseN L = ⟨2, ⟨[], 0, 0, 0, 0, 0⟩, someN L (atN L 1) 2, 0, 0, []⟩ := by unfold parseN; rw [if_neg k1, if_pos k2]
      rw [hP] at hSh HB
      rw [hP]
      rw [k2] at h0
      have h6 := HS 1 (by omega)
      clear HA HT HS HK hP k1 k2
      obtain ⟨s, hs⟩ : ∃ s, tx L = s := ⟨_, rfl⟩
      rw [hs] at h0  h6
      rw [hs]
      obtain ⟨QB, hQB⟩ : ∃ QB, Hid (getB L = QB) := ⟨_, rfl⟩
      rw [hQB.out] at HB
      rw [hQB.out]
      clear hQB
      generalize someN L (atN L 1) (1 + 1) = S at *
      have HQ := HB
      clear HB
      have HRt := fun (o1 : Option Addr) (n1 c1 : Nat) (o2 : Option Addr) (n2 c2 : Nat) (o3 : Option Addr) (n3 c3 : Nat) (w : World) (h : RAt w o1 n1 c1 o2 n2 c2 o3 n3 c3 ⟨2, ⟨[], 0, 0, 0, 0, 0⟩, S, 0, 0, []⟩) => refRec_any o1 n1 c1 o2 n2 c2 o3 n3 c3 _ w h hSh
      have HPt := fun (o1 : Option Addr) (n1 c1 : Nat) (o2 : Option Addr) (n2 c2 : Nat) (o3 : Option Addr) (n3 c3 : Nat) (w : World) (h : RAt w o1 n1 c1 o2 n2 c2 o3 n3 c3 ⟨2, ⟨[], 0, 0, 0, 0, 0⟩, S, 0, 0, []⟩) (hr : recR ⟨2, ⟨[], 0, 0, 0, 0, 0⟩, S, 0, 0, []⟩ = true) => refPut_any o1 n1 c1 o2 n2 c2 o3 n3 c3 _ w h hr
      obtain ⟨VA0, VB0, B0⟩ := pair_boxes w 29 29 zRV #[.int .i64 2, .slice none 0 0, .int .i64 0, .int .i64 0, .int .i64 0, .int .i64 0, .int .i64 0, .slice none 0 0, .int .i64 0, .int .i64 0, .slice none 0 0]
      go_enter Try.func14, Try.ntmps14
      go_wp2_with fail
      refine (h0 _).mono ?_
      rintro e w0 ⟨rfl, rfl⟩
      go_wp2_with fail
      generalize (w.alloc _).alloc _ = w1 at *
      refine (h6 _).mono ?_
      rintro e w2 ⟨⟨oa, n, cp, rfl, hL, hn⟩, B1⟩
      have VA2 := VA0.keep B1 (Nat.le_refl _)
      have VB2 := VB0.keep B1 (Nat.le_refl _)
      have B2 := B0.trans (B1.mono B0.size)
      clear VA0 VB0 B0 B1 h0  h6
      have f7 := VB2.free 7
      have u7 : w2.cell? ⟨w.heap.size + 1, 7, none⟩ = some (.slice none 0 0) := VB2.cell 7
      have VB : Vals (w2.setCell ⟨w.heap.size + 1, 7, none⟩ (.slice oa n cp)) (w.heap.size + 1) 29 #[.int .i64 2, .slice none 0 0, .int .i64 0, .int .i64 0, .int .i64 0, .int .i64 0, .int .i64 0, .slice oa n cp, .int .i64 0, .int .i64 0, .slice none 0 0] := by
        have := (VB2.set 7 (.slice oa n cp))
        simpa using this
      have VA := (VA2.other (B := w.heap.size + 1) (by omega) 7 (.slice oa n cp))
      have hO := ((OnlyAt.refl (w.heap.size + 1) w2).set 7 (.slice oa n cp))
      have hR : RAt (w2.setCell ⟨w.heap.size + 1, 7, none⟩ (.slice oa n cp)) none 0 0 oa n cp none 0 0 (⟨2, ⟨[], 0, 0, 0, 0, 0⟩, S, 0, 0, []⟩ : Rc) := ⟨Ls.nil _ _ _, hO.lies hL VB2 (rec_no_text _ _ _ _ _ _ _ _ _ _ _ _ _ _ _ _ _), Ms.nil _ _ _, by omega, by omega, by omega⟩
      clear hL
      have BW := (B2.setCell (p := ⟨w.heap.size + 1, 7, none⟩) (by show w.heap.size ≤ w.heap.size + 1; omega) (.slice oa n cp))
      have hBW := BW.size
      have u0 : (w2.setCell ⟨w.heap.size + 1, 7, none⟩ (.slice oa n cp)).cell? ⟨w.heap.size + 1, 0, none⟩ = some (.int .i64 2) := VB.cell 0
      clear VA2 VB2 B2 hO
      go_wp2_with fail
      clear f7 u7 u0
      generalize hWW : (w2.setCell ⟨w.heap.size + 1, 7, none⟩ (.slice oa n cp)) = W at *
      have p0 : W.cell? ⟨w.heap.size + 1, 0, none⟩ = some (.int .i64 2) := VB.cell 0
      have p1 : W.cell? ⟨w.heap.size + 1, 1, none⟩ = some (.slice none 0 0) := VB.cell 1
      have p2 : W.cell? ⟨w.heap.size + 1, 2, none⟩ = some (.int .i64 0) := VB.cell 2
      have p3 : W.cell? ⟨w.heap.size + 1, 3, none⟩ = some (.int .i64 0) := VB.cell 3
      have p4 : W.cell? ⟨w.heap.size + 1, 4, none⟩ = some (.int .i64 0) := VB.cell 4
      have p5 : W.cell? ⟨w.heap.size + 1, 5, none⟩ = some (.int .i64 0) := VB.cell 5
      have p6 : W.cell? ⟨w.heap.size + 1, 6, none⟩ = some (.int .i64 0) := VB.cell 6
      have p7 : W.cell? ⟨w.heap.size + 1, 7, none⟩ = some (.slice oa n cp) := VB.cell 7
      have p8 : W.cell? ⟨w.heap.size + 1, 8, none⟩ = some (.int .i64 0) := VB.cell 8
      have p9 : W.cell? ⟨w.heap.size + 1, 9, none⟩ = some (.int .i64 0) := VB.cell 9
      have p10 : W.cell? ⟨w.heap.size + 1, 10, none⟩ = some (.slice none 0 0) := VB.cell 10
      have d0 : W.drew.cell? ⟨w.heap.size + 1, 0, none⟩ = some (.int .i64 2) := p0
      have d1 : W.drew.cell? ⟨w.heap.size + 1, 1, none⟩ = some (.slice none 0 0) := p1
      have d2 : W.drew.cell? ⟨w.heap.size + 1, 2, none⟩ = some (.int .i64 0) := p2
      have d3 : W.drew.cell? ⟨w.heap.size + 1, 3, none⟩ = some (.int .i64 0) := p3
      have d4 : W.drew.cell? ⟨w.heap.size + 1, 4, none⟩ = some (.int .i64 0) := p4
      have d5 : W.drew.cell? ⟨w.heap.size + 1, 5, none⟩ = some (.int .i64 0) := p5
      have d6 : W.drew.cell? ⟨w.heap.size + 1, 6, none⟩ = some (.int .i64 0) := p6
      have d7 : W.drew.cell? ⟨w.heap.size + 1, 7, none⟩ = some (.slice oa n cp) := p7
      have d8 : W.drew.cell? ⟨w.heap.size + 1, 8, none⟩ = some (.int .i64 0) := p8
      have d9 : W.drew.cell? ⟨w.heap.size + 1, 9, none⟩ = some (.int .i64 0) := p9
      have d10 : W.drew.cell? ⟨w.heap.size + 1, 10, none⟩ = some (.slice none 0 0) := p10
      have hz1 : ∀ i : Nat, (⟨w.heap.size + 1, i, none⟩ : Addr).block ≠ w.heap.size := fun i => by show w.heap.size + 1 ≠ _; omega
      have hS4 : Hid (w.heap.size ≤ W.drew.heap.size) := by show w.heap.size ≤ W.heap.size; exact hBW
      have hRd := hR.below (Below.refl _ W).drew (Nat.le_refl _)
      have BWd := BW.drew
      clear VB hR hBW BW
      cases hr : recR (⟨2, ⟨[], 0, 0, 0, 0, 0⟩, S, 0, 0, []⟩) with
      | false =>
        have HR1 := HRt none 0 0 oa n cp none 0 0 _ hRd
        rw [hr] at HR1 HQ
        clear hr HRt HPt
        refine wp_region_held_drew (S := (fun w' => w'.cell? ⟨w.heap.size + 1, 0, none⟩ = some (.int .i64 2) ∧ w'.cell? ⟨w.heap.size + 1, 1, none⟩ = some (.slice none 0 0) ∧ w'.cell? ⟨w.heap.size + 1, 2, none⟩ = some (.int .i64 0) ∧ w'.cell? ⟨w.heap.size + 1, 3, none⟩ = some (.int .i64 0) ∧ w'.cell? ⟨w.heap.size + 1, 4, none⟩ = some (.int .i64 0) ∧ w'.cell? ⟨w.heap.size + 1, 5, none⟩ = some (.int .i64 0) ∧ w'.cell? ⟨w.heap.size + 1, 6, none⟩ = some (.int .i64 0) ∧ w'.cell? ⟨w.heap.size + 1, 7, none⟩ = some (.slice oa n cp) ∧ w'.cell? ⟨w.heap.size + 1, 8, none⟩ = some (.int .i64 0) ∧ w'.cell? ⟨w.heap.size + 1, 9, none⟩ = some (.int .i64 0) ∧ w'.cell? ⟨w.heap.size + 1, 10, none⟩ = some (.slice none 0 0))) (by kernel_rfl) ?_ (fun hHeld => ?_)
        · exact ⟨d0, d1, d2, d3, d4, d5, d6, d7, d8, d9, d10⟩
        refine wpAnyH_take (i := 0) (v := .agg #[.int .i64 2, .slice none 0 0, .int .i64 0, .int .i64 0, .int .i64 0, .int .i64 0, .int .i64 0, .slice oa n cp, .int .i64 0, .int .i64 0, .slice none 0 0]) rfl (by kernel_rfl) (by kernel_rfl) (by kernel_rfl) (fun _ _ _ h => h) (Or.inl ⟨by rfl, fun w hSw => by (try dsimp only at hSw); go_simp⟩) (by assumption) ?_
        try simp only [Act.put, List.setIfInBounds_toArray, List.set_cons_zero, List.set_cons_succ]
        refine wpAnyH_take (i := 1) (v := .agg #[.int .i64 2, .slice none 0 0, .int .i64 0, .int .i64 0, .int .i64 0, .int .i64 0, .int .i64 0, .slice oa n cp, .int .i64 0, .int .i64 0, .slice none 0 0]) rfl (by kernel_rfl) (by kernel_rfl) (by kernel_rfl) (fun _ _ _ h => h) (Or.inl ⟨by rfl, fun w hSw => by (try dsimp only at hSw); go_simp⟩) (by assumption) ?_
        try simp only [Act.put, List.setIfInBounds_toArray, List.set_cons_zero, List.set_cons_succ]
        refine wpAnyH_ready (rs := [2]) (by kernel_rfl) (by simp) ?_
        refine AllReadyH.cons rfl (fun K hK => ?_) AllReadyH.nil
        go_simp
        refine HR1.mono ?_; rintro e W2 ⟨rfl, BB⟩; have hR := hRd.below BB (Nat.le_refl _); have p0 := keepR (w := W.drew) BB p0; have p1 := keepR (w := W.drew) BB p1; have p2 := keepR (w := W.drew) BB p2; have p3 := keepR (w := W.drew) BB p3; have p4 := keepR (w := W.drew) BB p4; have p5 := keepR (w := W.drew) BB p5; have p6 := keepR (w := W.drew) BB p6; have p7 := keepR (w := W.drew) BB p7; have p8 := keepR (w := W.drew) BB p8; have p9 := keepR (w := W.drew) BB p9; have p10 := keepR (w := W.drew) BB p10; have VA := Vals.keep (w := W.drew) VA BB (Nat.le_refl _); have BW := BWd.trans (BB.mono hS4.out); have g0 := VA.free 0; have g1 := VA.free 1; have g2 := VA.free 2; have g3 := VA.free 3; have g4 := VA.free 4; have g5 := VA.free 5; have g6 := VA.free 6; have g7 := VA.free 7; have g8 := VA.free 8; have g9 := VA.free 9; have g10 := VA.free 10; have u0 : W2.cell? ⟨w.heap.size, 0, none⟩ = some (.int .i64 0) := VA.cell 0; have u1 : W2.cell? ⟨w.heap.size, 1, none⟩ = some (.slice none 0 0) := VA.cell 1; have u2 : W2.cell? ⟨w.heap.size, 2, none⟩ = some (.int .i64 0) := VA.cell 2; have u3 : W2.cell? ⟨w.heap.size, 3, none⟩ = some (.int .i64 0) := VA.cell 3; have u4 : W2.cell? ⟨w.heap.size, 4, none⟩ = some (.int .i64 0) := VA.cell 4; have u5 : W2.cell? ⟨w.heap.size, 5, none⟩ = some (.int .i64 0) := VA.cell 5; have u6 : W2.cell? ⟨w.heap.size, 6, none⟩ = some (.int .i64 0) := VA.cell 6; have u7 : W2.cell? ⟨w.heap.size, 7, none⟩ = some (.slice none 0 0) := VA.cell 7; have u8 : W2.cell? ⟨w.heap.size, 8, none⟩ = some (.int .i64 0) := VA.cell 8; have u9 : W2.cell? ⟨w.heap.size, 9, none⟩ = some (.int .i64 0) := VA.cell 9; have u10 : W2.cell? ⟨w.heap.size, 10, none⟩ = some (.slice none 0 0) := VA.cell 10; have q0 := eleven_keep p0 (hz1 0) (.int .i64 2) (.slice none 0 0) (.int .i64 0) (.int .i64 0) (.int .i64 0) (.int .i64 0) (.int .i64 0) (.slice oa n cp) (.int .i64 0) (.int .i64 0) (.slice none 0 0); have q1 := eleven_keep p1 (hz1 1) (.int .i64 2) (.slice none 0 0) (.int .i64 0) (.int .i64 0) (.int .i64 0) (.int .i64 0) (.int .i64 0) (.slice oa n cp) (.int .i64 0) (.int .i64 0) (.slice none 0 0); have q2 := eleven_keep p2 (hz1 2) (.int .i64 2) (.slice none 0 0) (.int .i64 0) (.int .i64 0) (.int .i64 0) (.int .i64 0) (.int .i64 0) (.slice oa n cp) (.int .i64 0) (.int .i64 0) (.slice none 0 0); have q3 := eleven_keep p3 (hz1 3) (.int .i64 2) (.slice none 0 0) (.int .i64 0) (.int .i64 0) (.int .i64 0) (.int .i64 0) (.int .i64 0) (.slice oa n cp) (.int .i64 0) (.int .i64 0) (.slice none 0 0); have q4 := eleven_keep p4 (hz1 4) (.int .i64 2) (.slice none 0 0) (.int .i64 0) (.int .i64 0) (.int .i64 0) (.int .i64 0) (.int .i64 0) (.slice oa n cp) (.int .i64 0) (.int .i64 0) (.slice none 0 0); have q5 := eleven_keep p5 (hz1 5) (.int .i64 2) (.slice none 0 0) (.int .i64 0) (.int .i64 0) (.int .i64 0) (.int .i64 0) (.int .i64 0) (.slice oa n cp) (.int .i64 0) (.int .i64 0) (.slice none 0 0); have q6 := eleven_keep p6 (hz1 6) (.int .i64 2) (.slice none 0 0) (.int .i64 0) (.int .i64 0) (.int .i64 0) (.int .i64 0) (.int .i64 0) (.slice oa n cp) (.int .i64 0) (.int .i64 0) (.slice none 0 0); have q7 := eleven_keep p7 (hz1 7) (.int .i64 2) (.slice none 0 0) (.int .i64 0) (.int .i64 0) (.int .i64 0) (.int .i64 0) (.int .i64 0) (.slice oa n cp) (.int .i64 0) (.int .i64 0) (.slice none 0 0); have q8 := eleven_keep p8 (hz1 8) (.int .i64 2) (.slice none 0 0) (.int .i64 0) (.int .i64 0) (.int .i64 0) (.int .i64 0) (.int .i64 0) (.slice oa n cp) (.int .i64 0) (.int .i64 0) (.slice none 0 0); have q9 := eleven_keep p9 (hz1 9) (.int .i64 2) (.slice none 0 0) (.int .i64 0) (.int .i64 0) (.int .i64 0) (.int .i64 0) (.int .i64 0) (.slice oa n cp) (.int .i64 0) (.int .i64 0) (.slice none 0 0); have q10 := eleven_keep p10 (hz1 10) (.int .i64 2) (.slice none 0 0) (.int .i64 0) (.int .i64 0) (.int .i64 0) (.int .i64 0) (.int .i64 0) (.slice oa n cp) (.int .i64 0) (.int .i64 0) (.slice none 0 0)
        go_wp2_with fail
        refine hK.out _ _ ?_ (fun hHeld => ?_)
        · with_reducible exact ⟨p0, p1, p2, p3, p4, p5, p6, p7, p8, p9, p10⟩
        clear hK K
        try simp only [Act.put, List.setIfInBounds_toArray, List.set_cons_zero, List.set_cons_succ]
        refine wpAnyH_take (i := 3) (v := .bool false) rfl (by kernel_rfl) (by kernel_rfl) (by kernel_rfl) (fun _ _ _ h => h) (Or.inl ⟨by rfl, fun w hSw => by (try dsimp only at hSw); go_simp⟩) (by assumption) ?_
        try simp only [Act.put, List.setIfInBounds_toArray, List.set_cons_zero, List.set_cons_succ]
        refine wpAnyH_take (i := 4) (v := undef) rfl (by kernel_rfl) (by kernel_rfl) (by kernel_rfl) (fun _ _ _ h => h) (Or.inr ⟨by rfl, rfl⟩) (by assumption) ?_
        try simp only [Act.put, List.setIfInBounds_toArray, List.set_cons_zero, List.set_cons_succ]
        refine wpAnyH_take (i := 6) (v := undef) rfl (by kernel_rfl) (by kernel_rfl) (by kernel_rfl) (fun _ _ _ h => h) (Or.inr ⟨by rfl, rfl⟩) (by assumption) ?_
        try simp only [Act.put, List.setIfInBounds_toArray, List.set_cons_zero, List.set_cons_succ]
        refine wpAnyH_take (i := 5) (v := undef) rfl (by kernel_rfl) (by kernel_rfl) (by kernel_rfl) (fun _ _ _ h => h) (Or.inr ⟨by rfl, rfl⟩) (by assumption) ?_
        try simp only [Act.put, List.setIfInBounds_toArray, List.set_cons_zero, List.set_cons_succ]
        refine wpAnyH_take (i := 7) (v := undef) rfl (by kernel_rfl) (by kernel_rfl) (by kernel_rfl) (fun _ _ _ h => h) (Or.inr ⟨by rfl, rfl⟩) (by assumption) ?_
        try simp only [Act.put, List.setIfInBounds_toArray, List.set_cons_zero, List.set_cons_succ]
        refine wpAnyH_take (i := 8) (v := .bool false) rfl (by kernel_rfl) (by kernel_rfl) (by kernel_rfl) (fun _ _ _ h => h) (Or.inl ⟨by rfl, fun w hSw => by (try dsimp only at hSw); go_simp⟩) (by assumption) ?_
        try simp only [Act.put, List.setIfInBounds_toArray, List.set_cons_zero, List.set_cons_succ]
        refine wpAnyH_ready (rs := [9]) (by kernel_rfl) (by simp) ?_
        refine AllReadyH.cons rfl (fun K hK => ?_) AllReadyH.nil
        go_simp
        refine hK.out _ _ ?_ (fun hHeld => ?_)
        · with_reducible exact ⟨q0, q1, q2, q3, q4, q5, q6, q7, q8, q9, q10⟩
        clear hK K
        try simp only [Act.put, List.setIfInBounds_toArray, List.set_cons_zero, List.set_cons_succ]
        refine wpAnyH_ready (rs := [10]) (by kernel_rfl) (by simp) ?_
        refine AllReadyH.cons rfl (fun K hK => ?_) AllReadyH.nil
        go_simp
        refine hK.out _ _ ?_ (fun hHeld => ?_)
        · with_reducible exact ⟨q0, q1, q2, q3, q4, q5, q6, q7, q8, q9, q10⟩
        clear hK K
        try simp only [Act.put, List.setIfInBounds_toArray, List.set_cons_zero, List.set_cons_succ]
        refine wpAnyH_done (by kernel_rfl) ?_ _
        all_goals
          have VE := VA.eleven (.int .i64 2) (.slice none 0 0) (.int .i64 0) (.int .i64 0) (.int .i64 0) (.int .i64 0) (.int .i64 0) (.slice oa n cp) (.int .i64 0) (.int .i64 0) (.slice none 0 0)
          have hRE := ((((((((((((OnlyAt.refl w.heap.size W2).set 0 (.int .i64 2)).set 1 (.slice none 0 0)).set 2 (.int .i64 0)).set 3 (.int .i64 0)).set 4 (.int .i64 0)).set 5 (.int .i64 0)).set 6 (.int .i64 0)).set 7 (.slice oa n cp)).set 8 (.int .i64 0)).set 9 (.int .i64 0)).set 10 (.slice none 0 0)).rec hR VA (rec_no_text _ _ _ _ _ _ _ _ _ _ _ _ _ _ _ _ _)
          clear p0 d0 q0 g0 u0 p1 d1 q1 g1 u1 p2 d2 q2 g2 u2 p3 d3 q3 g3 u3 p4 d4 q4 g4 u4 p5 d5 q5 g5 u5 p6 d6 q6 g6 u6 p7 d7 q7 g7 u7 p8 d8 q8 g8 u8 p9 d9 q9 g9 u9 p10 d10 q10 g10 u10
          go_wp2_with fail
          refine bodyPost_ret (retG (k := 2) (v1 := .slice none 0 0) (d := ⟨[], 0, 0, 0, 0, 0⟩) (v2 := .slice oa n cp) (f := 0) (t := 0) (v3 := .slice none 0 0) rfl rfl rfl VE) rfl ?_
          exact ⟨⟨_, _, _, _, _, _, _, _, _, by rw [HQ.out]; rfl, hRE⟩, below_eleven BW (Nat.le_refl _) _ _ _ _ _ _ _ _ _ _ _⟩
      | true =>
        have HR1 := HRt none 0 0 oa n cp none 0 0 _ hRd
        rw [hr] at HR1 HQ
        have HP1 := fun (w5 : World) (h : RAt w5 none 0 0 oa n cp none 0 0 (⟨2, ⟨[], 0, 0, 0, 0, 0⟩, S, 0, 0, []⟩)) => HPt none 0 0 oa n cp none 0 0 w5 h hr
        have hq := tx_beq (putL (⟨2, ⟨[], 0, 0, 0, 0, 0⟩, S, 0, 0, []⟩)) L
        rw [hs] at hq
        rw [Bool.true_and] at HQ
        generalize tx (putL (⟨2, ⟨[], 0, 0, 0, 0, 0⟩, S, 0, 0, []⟩)) = y at *
        generalize decide (putL (⟨2, ⟨[], 0, 0, 0, 0, 0⟩, S, 0, 0, []⟩) = L) = Q at *
        clear hr HRt HPt
        go_region_held3 (fun w' => w'.cell? ⟨w.heap.size + 1, 0, none⟩ = some (.int .i64 2) ∧ w'.cell? ⟨w.heap.size + 1, 1, none⟩ = some (.slice none 0 0) ∧ w'.cell? ⟨w.heap.size + 1, 2, none⟩ = some (.int .i64 0) ∧ w'.cell? ⟨w.heap.size + 1, 3, none⟩ = some (.int .i64 0) ∧ w'.cell? ⟨w.heap.size + 1, 4, none⟩ = some (.int .i64 0) ∧ w'.cell? ⟨w.heap.size + 1, 5, none⟩ = some (.int .i64 0) ∧ w'.cell? ⟨w.heap.size + 1, 6, none⟩ = some (.int .i64 0) ∧ w'.cell? ⟨w.heap.size + 1, 7, none⟩ = some (.slice oa n cp) ∧ w'.cell? ⟨w.heap.size + 1, 8, none⟩ = some (.int .i64 0) ∧ w'.cell? ⟨w.heap.size + 1, 9, none⟩ = some (.int .i64 0) ∧ w'.cell? ⟨w.heap.size + 1, 10, none⟩ = some (.slice none 0 0))
          (first | with_reducible exact ⟨d0, d1, d2, d3, d4, d5, d6, d7, d8, d9, d10⟩ | with_reducible exact ⟨p0, p1, p2, p3, p4, p5, p6, p7, p8, p9, p10⟩ | with_reducible exact ⟨q0, q1, q2, q3, q4, q5, q6, q7, q8, q9, q10⟩)
          (first | (go_at_call 10; refine HR1.mono ?_; rintro e W2 ⟨rfl, BB⟩; have hR := hRd.below BB (Nat.le_refl _); have p0 := keepR (w := W.drew) BB p0; have p1 := keepR (w := W.drew) BB p1; have p2 := keepR (w := W.drew) BB p2; have p3 := keepR (w := W.drew) BB p3; have p4 := keepR (w := W.drew) BB p4; have p5 := keepR (w := W.drew) BB p5; have p6 := keepR (w := W.drew) BB p6; have p7 := keepR (w := W.drew) BB p7; have p8 := keepR (w := W.drew) BB p8; have p9 := keepR (w := W.drew) BB p9; have p10 := keepR (w := W.drew) BB p10; have VA := Vals.keep (w := W.drew) VA BB (Nat.le_refl _); have BW := BWd.trans (BB.mono hS4.out)) | (go_at_call 12; refine (HP1 _ hR).mono ?_; rintro e W3 ⟨rfl, BB⟩; have hR := hR.below BB (Nat.le_refl _); have p0 := keepR BB p0; have p1 := keepR BB p1; have p2 := keepR BB p2; have p3 := keepR BB p3; have p4 := keepR BB p4; have p5 := keepR BB p5; have p6 := keepR BB p6; have p7 := keepR BB p7; have p8 := keepR BB p8; have p9 := keepR BB p9; have p10 := keepR BB p10; have VA := VA.keep BB (Nat.le_refl _); have BW := BW.trans (BB.mono BW.size); have g0 := VA.free 0; have g1 := VA.free 1; have g2 := VA.free 2; have g3 := VA.free 3; have g4 := VA.free 4; have g5 := VA.free 5; have g6 := VA.free 6; have g7 := VA.free 7; have g8 := VA.free 8; have g9 := VA.free 9; have g10 := VA.free 10; have u0 : W3.cell? ⟨w.heap.size, 0, none⟩ = some (.int .i64 0) := VA.cell 0; have u1 : W3.cell? ⟨w.heap.size, 1, none⟩ = some (.slice none 0 0) := VA.cell 1; have u2 : W3.cell? ⟨w.heap.size, 2, none⟩ = some (.int .i64 0) := VA.cell 2; have u3 : W3.cell? ⟨w.heap.size, 3, none⟩ = some (.int .i64 0) := VA.cell 3; have u4 : W3.cell? ⟨w.heap.size, 4, none⟩ = some (.int .i64 0) := VA.cell 4; have u5 : W3.cell? ⟨w.heap.size, 5, none⟩ = some (.int .i64 0) := VA.cell 5; have u6 : W3.cell? ⟨w.heap.size, 6, none⟩ = some (.int .i64 0) := VA.cell 6; have u7 : W3.cell? ⟨w.heap.size, 7, none⟩ = some (.slice none 0 0) := VA.cell 7; have u8 : W3.cell? ⟨w.heap.size, 8, none⟩ = some (.int .i64 0) := VA.cell 8; have u9 : W3.cell? ⟨w.heap.size, 9, none⟩ = some (.int .i64 0) := VA.cell 9; have u10 : W3.cell? ⟨w.heap.size, 10, none⟩ = some (.slice none 0 0) := VA.cell 10; have q0 := eleven_keep p0 (hz1 0) (.int .i64 2) (.slice none 0 0) (.int .i64 0) (.int .i64 0) (.int .i64 0) (.int .i64 0) (.int .i64 0) (.slice oa n cp) (.int .i64 0) (.int .i64 0) (.slice none 0 0); have q1 := eleven_keep p1 (hz1 1) (.int .i64 2) (.slice none 0 0) (.int .i64 0) (.int .i64 0) (.int .i64 0) (.int .i64 0) (.int .i64 0) (.slice oa n cp) (.int .i64 0) (.int .i64 0) (.slice none 0 0); have q2 := eleven_keep p2 (hz1 2) (.int .i64 2) (.slice none 0 0) (.int .i64 0) (.int .i64 0) (.int .i64 0) (.int .i64 0) (.int .i64 0) (.slice oa n cp) (.int .i64 0) (.int .i64 0) (.slice none 0 0); have q3 := eleven_keep p3 (hz1 3) (.int .i64 2) (.slice none 0 0) (.int .i64 0) (.int .i64 0) (.int .i64 0) (.int .i64 0) (.int .i64 0) (.slice oa n cp) (.int .i64 0) (.int .i64 0) (.slice none 0 0); have q4 := eleven_keep p4 (hz1 4) (.int .i64 2) (.slice none 0 0) (.int .i64 0) (.int .i64 0) (.int .i64 0) (.int .i64 0) (.int .i64 0) (.slice oa n cp) (.int .i64 0) (.int .i64 0) (.slice none 0 0); have q5 := eleven_keep p5 (hz1 5) (.int .i64 2) (.slice none 0 0) (.int .i64 0) (.int .i64 0) (.int .i64 0) (.int .i64 0) (.int .i64 0) (.slice oa n cp) (.int .i64 0) (.int .i64 0) (.slice none 0 0); have q6 := eleven_keep p6 (hz1 6) (.int .i64 2) (.slice none 0 0) (.int .i64 0) (.int .i64 0) (.int .i64 0) (.int .i64 0) (.int .i64 0) (.slice oa n cp) (.int .i64 0) (.int .i64 0) (.slice none 0 0); have q7 := eleven_keep p7 (hz1 7) (.int .i64 2) (.slice none 0 0) (.int .i64 0) (.int .i64 0) (.int .i64 0) (.int .i64 0) (.int .i64 0) (.slice oa n cp) (.int .i64 0) (.int .i64 0) (.slice none 0 0); have q8 := eleven_keep p8 (hz1 8) (.int .i64 2) (.slice none 0 0) (.int .i64 0) (.int .i64 0) (.int .i64 0) (.int .i64 0) (.int .i64 0) (.slice oa n cp) (.int .i64 0) (.int .i64 0) (.slice none 0 0); have q9 := eleven_keep p9 (hz1 9) (.int .i64 2) (.slice none 0 0) (.int .i64 0) (.int .i64 0) (.int .i64 0) (.int .i64 0) (.int .i64 0) (.slice oa n cp) (.int .i64 0) (.int .i64 0) (.slice none 0 0); have q10 := eleven_keep p10 (hz1 10) (.int .i64 2) (.slice none 0 0) (.int .i64 0) (.int .i64 0) (.int .i64 0) (.int .i64 0) (.int .i64 0) (.slice oa n cp) (.int .i64 0) (.int .i64 0) (.slice none 0 0)))
        all_goals
          have VE := VA.eleven (.int .i64 2) (.slice none 0 0) (.int .i64 0) (.int .i64 0) (.int .i64 0) (.int .i64 0) (.int .i64 0) (.slice oa n cp) (.int .i64 0) (.int .i64 0) (.slice none 0 0)
          have hRE := ((((((((((((OnlyAt.refl w.heap.size W3).set 0 (.int .i64 2)).set 1 (.slice none 0 0)).set 2 (.int .i64 0)).set 3 (.int .i64 0)).set 4 (.int .i64 0)).set 5 (.int .i64 0)).set 6 (.int .i64 0)).set 7 (.slice oa n cp)).set 8 (.int .i64 0)).set 9 (.int .i64 0)).set 10 (.slice none 0 0)).rec hR VA (rec_no_text _ _ _ _ _ _ _ _ _ _ _ _ _ _ _ _ _)
          clear p0 d0 q0 g0 u0 p1 d1 q1 g1 u1 p2 d2 q2 g2 u2 p3 d3 q3 g3 u3 p4 d4 q4 g4 u4 p5 d5 q5 g5 u5 p6 d6 q6 g6 u6 p7 d7 q7 g7 u7 p8 d8 q8 g8 u8 p9 d9 q9 g9 u9 p10 d10 q10 g10 u10
          go_wp2_with fail
          refine bodyPost_ret (retG (k := 2) (v1 := .slice none 0 0) (d := ⟨[], 0, 0, 0, 0, 0⟩) (v2 := .slice oa n cp) (f := 0) (t := 0) (v3 := .slice none 0 0) rfl rfl rfl VE) rfl ?_
          exact ⟨⟨_, _, _, _, _, _, _, _, _, by rw [HQ.out]; rfl, hRE⟩, below_eleven BW (Nat.le_refl _) _ _ _ _ _ _ _ _ _ _ _⟩
    · by_cases k3 : atN L 0 = 3
      · skip
        have hP : parseN L = ⟨3, ⟨[], 0, 0, 0, 0, 0⟩, [], timeN L 1, timeN L 7, askedN L (atN L 13) 14⟩ := by unfold parseN; rw [if_neg k1, if_neg k2, if_pos k3]
        rw [hP] at hSh HB
        rw [hP]
        rw [k3] at h0
        have h1 := HT 1 (by omega)
        have h2 := HT 7 (by omega)
        have h6 := HK 13 (by omega)
        clear HA HT HS HK hP k1 k2 k3
        obtain ⟨s, hs⟩ : ∃ s, tx L = s := ⟨_, rfl⟩
        rw [hs] at h0 h1 h2 h6
        rw [hs]
        obtain ⟨QB, hQB⟩ : ∃ QB, Hid (getB L = QB) := ⟨_, rfl⟩
        rw [hQB.out] at HB
        rw [hQB.out]
        clear hQB
        generalize askedN L (atN L 13) (13 + 1) = S at *
        generalize ((timeN L 1 : Nat) : Int) = a1 at *
        generalize ((timeN L 7 : Nat) : Int) = a7 at *
        have HQ := HB
        clear HB
        have HRt := fun (o1 : Option Addr) (n1 c1 : Nat) (o2 : Option Addr) (n2 c2 : Nat) (o3 : Option Addr) (n3 c3 : Nat) (w : World) (h : RAt w o1 n1 c1 o2 n2 c2 o3 n3 c3 ⟨3, ⟨[], 0, 0, 0, 0, 0⟩, [], a1, a7, S⟩) => refRec_any o1 n1 c1 o2 n2 c2 o3 n3 c3 _ w h hSh
        have HPt := fun (o1 : Option Addr) (n1 c1 : Nat) (o2 : Option Addr) (n2 c2 : Nat) (o3 : Option Addr) (n3 c3 : Nat) (w : World) (h : RAt w o1 n1 c1 o2 n2 c2 o3 n3 c3 ⟨3, ⟨[], 0, 0, 0, 0, 0⟩, [], a1, a7, S⟩) (hr : recR ⟨3, ⟨[], 0, 0, 0, 0, 0⟩, [], a1, a7, S⟩ = true) => refPut_any o1 n1 c1 o2 n2 c2 o3 n3 c3 _ w h hr
        obtain ⟨VA0, VB0, B0⟩ := pair_boxes w 29 29 zRV #[.int .i64 3, .slice none 0 0, .int .i64 0, .int .i64 0, .int .i64 0, .int .i64 0, .int .i64 0, .slice none 0 0, .int .i64 0, .int .i64 0, .slice none 0 0]
        go_enter Try.func14, Try.ntmps14
        go_wp2_with fail
        refine (h0 _).mono ?_
        rintro e w0 ⟨rfl, rfl⟩
        go_wp2_with fail
        generalize (w.alloc _).alloc _ = w1 at *
        refine (h1 _).mono ?_
        rintro e w0 ⟨rfl, rfl⟩
        go_wp2_with fail
        refine (h2 _).mono ?_
        rintro e w0 ⟨rfl, rfl⟩
        go_wp2_with fail
        refine (h6 _).mono ?_
        rintro e w2 ⟨⟨oa, n, cp, rfl, hL, hn⟩, B1⟩
        have VA2 := VA0.keep B1 (Nat.le_refl _)
        have VB2 := VB0.keep B1 (Nat.le_refl _)
        have B2 := B0.trans (B1.mono B0.size)
        clear VA0 VB0 B0 B1 h0 h1 h2 h6
        have f8 := VB2.free 8
        have u8 : w2.cell? ⟨w.heap.size + 1, 8, none⟩ = some (.int .i64 0) := VB2.cell 8
        have f9 := VB2.free 9
        have u9 : w2.cell? ⟨w.heap.size + 1, 9, none⟩ = some (.int .i64 0) := VB2.cell 9
        have f10 := VB2.free 10
        have u10 : w2.cell? ⟨w.heap.size + 1, 10, none⟩ = some (.slice none 0 0) := VB2.cell 10
        have VB : Vals (((w2.setCell ⟨w.heap.size + 1, 8, none⟩ (.int .i64 a1)).setCell ⟨w.heap.size + 1, 9, none⟩ (.int .i64 a7)).setCell ⟨w.heap.size + 1, 10, none⟩ (.slice oa n cp)) (w.heap.size + 1) 29 #[.int .i64 3, .slice none 0 0, .int .i64 0, .int .i64 0, .int .i64 0, .int .i64 0, .int .i64 0, .slice none 0 0, .int .i64 a1, .int .i64 a7, .slice oa n cp] := by
          have := (((VB2.set 8 (.int .i64 a1)).set 9 (.int .i64 a7)).set 10 (.slice oa n cp))
          simpa using this
        have VA := (((VA2.other (B := w.heap.size + 1) (by omega) 8 (.int .i64 a1)).other (B := w.heap.size + 1) (by omega) 9 (.int .i64 a7)).other (B := w.heap.size + 1) (by omega) 10 (.slice oa n cp))
        have hO := ((((OnlyAt.refl (w.heap.size + 1) w2).set 8 (.int .i64 a1)).set 9 (.int .i64 a7)).set 10 (.slice oa n cp))
        have hR : RAt (((w2.setCell ⟨w.heap.size + 1, 8, none⟩ (.int .i64 a1)).setCell ⟨w.heap.size + 1, 9, none⟩ (.int .i64 a7)).setCell ⟨w.heap.size + 1, 10, none⟩ (.slice oa n cp)) none 0 0 none 0 0 oa n cp (⟨3, ⟨[], 0, 0, 0, 0, 0⟩, [], a1, a7, S⟩ : Rc) := ⟨Ls.nil _ _ _, Ls.nil _ _ _, hO.liesM hL VB2 (rec_no_text _ _ _ _ _ _ _ _ _ _ _ _ _ _ _ _ _), by omega, by omega, by omega⟩
        clear hL
        have BW := (((B2.setCell (p := ⟨w.heap.size + 1, 8, none⟩) (by show w.heap.size ≤ w.heap.size + 1; omega) (.int .i64 a1)).setCell (p := ⟨w.heap.size + 1, 9, none⟩) (by show w.heap.size ≤ w.heap.size + 1; omega) (.int .i64 a7)).setCell (p := ⟨w.heap.size + 1, 10, none⟩) (by show w.heap.size ≤ w.heap.size + 1; omega) (.slice oa n cp))
        have hBW := BW.size
        have u0 : (((w2.setCell ⟨w.heap.size + 1, 8, none⟩ (.int .i64 a1)).setCell ⟨w.heap.size + 1, 9, none⟩ (.int .i64 a7)).setCell ⟨w.heap.size + 1, 10, none⟩ (.slice oa n cp)).cell? ⟨w.heap.size + 1, 0, none⟩ = some (.int .i64 3) := VB.cell 0
        clear VA2 VB2 B2 hO
        go_wp2_with fail
        clear f8 u8 f9 u9 f10 u10 u0
        generalize hWW : (((w2.setCell ⟨w.heap.size + 1, 8, none⟩ (.int .i64 a1)).setCell ⟨w.heap.size + 1, 9, none⟩ (.int .i64 a7)).setCell ⟨w.heap.size + 1, 10, none⟩ (.slice oa n cp)) = W at *
        have p0 : W.cell? ⟨w.heap.size + 1, 0, none⟩ = some (.int .i64 3) := VB.cell 0
        have p1 : W.cell? ⟨w.heap.size + 1, 1, none⟩ = some (.slice none 0 0) := VB.cell 1
        have p2 : W.cell? ⟨w.heap.size + 1, 2, none⟩ = some (.int .i64 0) := VB.cell 2
        have p3 : W.cell? ⟨w.heap.size + 1, 3, none⟩ = some (.int .i64 0) := VB.cell 3
        have p4 : W.cell? ⟨w.heap.size + 1, 4, none⟩ = some (.int .i64 0) := VB.cell 4
        have p5 : W.cell? ⟨w.heap.size + 1, 5, none⟩ = some (.int .i64 0) := VB.cell 5
        have p6 : W.cell? ⟨w.heap.size + 1, 6, none⟩ = some (.int .i64 0) := VB.cell 6
        have p7 : W.cell? ⟨w.heap.size + 1, 7, none⟩ = some (.slice none 0 0) := VB.cell 7
        have p8 : W.cell? ⟨w.heap.size + 1, 8, none⟩ = some (.int .i64 a1) := VB.cell 8
        have p9 : W.cell? ⟨w.heap.size + 1, 9, none⟩ = some (.int .i64 a7) := VB.cell 9
        have p10 : W.cell? ⟨w.heap.size + 1, 10, none⟩ = some (.slice oa n cp) := VB.cell 10
        have d0 : W.drew.cell? ⟨w.heap.size + 1, 0, none⟩ = some (.int .i64 3) := p0
        have d1 : W.drew.cell? ⟨w.heap.size + 1, 1, none⟩ = some (.slice none 0 0) := p1
        have d2 : W.drew.cell? ⟨w.heap.size + 1, 2, none⟩ = some (.int .i64 0) := p2
        have d3 : W.drew.cell? ⟨w.heap.size + 1, 3, none⟩ = some (.int .i64 0) := p3
        have d4 : W.drew.cell? ⟨w.heap.size + 1, 4, none⟩ = some (.int .i64 0) := p4
        have d5 : W.drew.cell? ⟨w.heap.size + 1, 5, none⟩ = some (.int .i64 0) := p5
        have d6 : W.drew.cell? ⟨w.heap.size + 1, 6, none⟩ = some (.int .i64 0) := p6
        have d7 : W.drew.cell? ⟨w.heap.size + 1, 7, none⟩ = some (.slice none 0 0) := p7
        have d8 : W.drew.cell? ⟨w.heap.size + 1, 8, none⟩ = some (.int .i64 a1) := p8
        have d9 : W.drew.cell? ⟨w.heap.size + 1, 9, none⟩ = some (.int .i64 a7) := p9
        have d10 : W.drew.cell? ⟨w.heap.size + 1, 10, none⟩ = some (.slice oa n cp) := p10
        have hz1 : ∀ i : Nat, (⟨w.heap.size + 1, i, none⟩ : Addr).block ≠ w.heap.size := fun i => by show w.heap.size + 1 ≠ _; omega
        have hS4 : Hid (w.heap.size ≤ W.drew.heap.size) := by show w.heap.size ≤ W.heap.size; exact hBW
        have hRd := hR.below (Below.refl _ W).drew (Nat.le_refl _)
        have BWd := BW.drew
        clear VB hR hBW BW
        cases hr : recR (⟨3, ⟨[], 0, 0, 0, 0, 0⟩, [], a1, a7, S⟩) with
        | false =>
          have HR1 := HRt none 0 0 none 0 0 oa n cp _ hRd
          rw [hr] at HR1 HQ
          clear hr HRt HPt
          refine wp_region_held_drew (S := (fun w' => w'.cell? ⟨w.heap.size + 1, 0, none⟩ = some (.int .i64 3) ∧ w'.cell? ⟨w.heap.size + 1, 1, none⟩ = some (.slice none 0 0) ∧ w'.cell? ⟨w.heap.size + 1, 2, none⟩ = some (.int .i64 0) ∧ w'.cell? ⟨w.heap.size + 1, 3, none⟩ = some (.int .i64 0) ∧ w'.cell? ⟨w.heap.size + 1, 4, none⟩ = some (.int .i64 0) ∧ w'.cell? ⟨w.heap.size + 1, 5, none⟩ = some (.int .i64 0) ∧ w'.cell? ⟨w.heap.size + 1, 6, none⟩ = some (.int .i64 0) ∧ w'.cell? ⟨w.heap.size + 1, 7, none⟩ = some (.slice none 0 0) ∧ w'.cell? ⟨w.heap.size + 1, 8, none⟩ = some (.int .i64 a1) ∧ w'.cell? ⟨w.heap.size + 1, 9, none⟩ = some (.int .i64 a7) ∧ w'.cell? ⟨w.heap.size + 1, 10, none⟩ = some (.slice oa n cp))) (by kernel_rfl) ?_ (fun hHeld => ?_)
          · exact ⟨d0, d1, d2, d3, d4, d5, d6, d7, d8, d9, d10⟩
          refine wpAnyH_take (i := 0) (v := .agg #[.int .i64 3, .slice none 0 0, .int .i64 0, .int .i64 0, .int .i64 0, .int .i64 0, .int .i64 0, .slice none 0 0, .int .i64 a1, .int .i64 a7, .slice oa n cp]) rfl (by kernel_rfl) (by kernel_rfl) (by kernel_rfl) (fun _ _ _ h => h) (Or.inl ⟨by rfl, fun w hSw => by (try dsimp only at hSw); go_simp⟩) (by assumption) ?_
          try simp only [Act.put, List.setIfInBounds_toArray, List.set_cons_zero, List.set_cons_succ]
          refine wpAnyH_take (i := 1) (v := .agg #[.int .i64 3, .slice none 0 0, .int .i64 0, .int .i64 0, .int .i64 0, .int .i64 0, .int .i64 0, .slice none 0 0, .int .i64 a1, .int .i64 a7, .slice oa n cp]) rfl (by kernel_rfl) (by kernel_rfl) (by kernel_rfl) (fun _ _ _ h => h) (Or.inl ⟨by rfl, fun w hSw => by (try dsimp only at hSw); go_simp⟩) (by assumption) ?_
          try simp only [Act.put, List.setIfInBounds_toArray, List.set_cons_zero, List.set_cons_succ]
          refine wpAnyH_ready (rs := [2]) (by kernel_rfl) (by simp) ?_
          refine AllReadyH.cons rfl (fun K hK => ?_) AllReadyH.nil
          go_simp
          refine HR1.mono ?_; rintro e W2 ⟨rfl, BB⟩; have hR := hRd.below BB (Nat.le_refl _); have p0 := keepR (w := W.drew) BB p0; have p1 := keepR (w := W.drew) BB p1; have p2 := keepR (w := W.drew) BB p2; have p3 := keepR (w := W.drew) BB p3; have p4 := keepR (w := W.drew) BB p4; have p5 := keepR (w := W.drew) BB p5; have p6 := keepR (w := W.drew) BB p6; have p7 := keepR (w := W.drew) BB p7; have p8 := keepR (w := W.drew) BB p8; have p9 := keepR (w := W.drew) BB p9; have p10 := keepR (w := W.drew) BB p10; have VA := Vals.keep (w := W.drew) VA BB (Nat.le_refl _); have BW := BWd.trans (BB.mono hS4.out); have g0 := VA.free 0; have g1 := VA.free 1; have g2 := VA.free 2; have g3 := VA.free 3; have g4 := VA.free 4; have g5 := VA.free 5; have g6 := VA.free 6; have g7 := VA.free 7; have g8 := VA.free 8; have g9 := VA.free 9; have g10 := VA.free 10; have u0 : W2.cell? ⟨w.heap.size, 0, none⟩ = some (.int .i64 0) := VA.cell 0; have u1 : W2.cell? ⟨w.heap.size, 1, none⟩ = some (.slice none 0 0) := VA.cell 1; have u2 : W2.cell? ⟨w.heap.size, 2, none⟩ = some (.int .i64 0) := VA.cell 2; have u3 : W2.cell? ⟨w.heap.size, 3, none⟩ = some (.int .i64 0) := VA.cell 3; have u4 : W2.cell? ⟨w.heap.size, 4, none⟩ = some (.int .i64 0) := VA.cell 4; have u5 : W2.cell? ⟨w.heap.size, 5, none⟩ = some (.int .i64 0) := VA.cell 5; have u6 : W2.cell? ⟨w.heap.size, 6, none⟩ = some (.int .i64 0) := VA.cell 6; have u7 : W2.cell? ⟨w.heap.size, 7, none⟩ = some (.slice none 0 0) := VA.cell 7; have u8 : W2.cell? ⟨w.heap.size, 8, none⟩ = some (.int .i64 0) := VA.cell 8; have u9 : W2.cell? ⟨w.heap.size, 9, none⟩ = some (.int .i64 0) := VA.cell 9; have u10 : W2.cell? ⟨w.heap.size, 10, none⟩ = some (.slice none 0 0) := VA.cell 10; have q0 := eleven_keep p0 (hz1 0) (.int .i64 3) (.slice none 0 0) (.int .i64 0) (.int .i64 0) (.int .i64 0) (.int .i64 0) (.int .i64 0) (.slice none 0 0) (.int .i64 a1) (.int .i64 a7) (.slice oa n cp); have q1 := eleven_keep p1 (hz1 1) (.int .i64 3) (.slice none 0 0) (.int .i64 0) (.int .i64 0) (.int .i64 0) (.int .i64 0) (.int .i64 0) (.slice none 0 0) (.int .i64 a1) (.int .i64 a7) (.slice oa n cp); have q2 := eleven_keep p2 (hz1 2) (.int .i64 3) (.slice none 0 0) (.int .i64 0) (.int .i64 0) (.int .i64 0) (.int .i64 0) (.int .i64 0) (.slice none 0 0) (.int .i64 a1) (.int .i64 a7) (.slice oa n cp); have q3 := eleven_keep p3 (hz1 3) (.int .i64 3) (.slice none 0 0) (.int .i64 0) (.int .i64 0) (.int .i64 0) (.int .i64 0) (.int .i64 0) (.slice none 0 0) (.int .i64 a1) (.int .i64 a7) (.slice oa n cp); have q4 := eleven_keep p4 (hz1 4) (.int .i64 3) (.slice none 0 0) (.int .i64 0) (.int .i64 0) (.int .i64 0) (.int .i64 0) (.int .i64 0) (.slice none 0 0) (.int .i64 a1) (.int .i64 a7) (.slice oa n cp); have q5 := eleven_keep p5 (hz1 5) (.int .i64 3) (.slice none 0 0) (.int .i64 0) (.int .i64 0) (.int .i64 0) (.int .i64 0) (.int .i64 0) (.slice none 0 0) (.int .i64 a1) (.int .i64 a7) (.slice oa n cp); have q6 := eleven_keep p6 (hz1 6) (.int .i64 3) (.slice none 0 0) (.int .i64 0) (.int .i64 0) (.int .i64 0) (.int .i64 0) (.int .i64 0) (.slice none 0 0) (.int .i64 a1) (.int .i64 a7) (.slice oa n cp); have q7 := eleven_keep p7 (hz1 7) (.int .i64 3) (.slice none 0 0) (.int .i64 0) (.int .i64 0) (.int .i64 0) (.int .i64 0) (.int .i64 0) (.slice none 0 0) (.int .i64 a1) (.int .i64 a7) (.slice oa n cp); have q8 := eleven_keep p8 (hz1 8) (.int .i64 3) (.slice none 0 0) (.int .i64 0) (.int .i64 0) (.int .i64 0) (.int .i64 0) (.int .i64 0) (.slice none 0 0) (.int .i64 a1) (.int .i64 a7) (.slice oa n cp); have q9 := eleven_keep p9 (hz1 9) (.int .i64 3) (.slice none 0 0) (.int .i64 0) (.int .i64 0) (.int .i64 0) (.int .i64 0) (.int .i64 0) (.slice none 0 0) (.int .i64 a1) (.int .i64 a7) (.slice oa n cp); have q10 := eleven_keep p10 (hz1 10) (.int .i64 3) (.slice none 0 0) (.int .i64 0) (.int .i64 0) (.int .i64 0) (.int .i64 0) (.int .i64 0) (.slice none 0 0) (.int .i64 a1) (.int .i64 a7) (.slice oa n cp)
          go_wp2_with fail
          refine hK.out _ _ ?_ (fun hHeld => ?_)
          · with_reducible exact ⟨p0, p1, p2, p3, p4, p5, p6, p7, p8, p9, p10⟩
          clear hK K
          try simp only [Act.put, List.setIfInBounds_toArray, List.set_cons_zero, List.set_cons_succ]
          refine wpAnyH_take (i := 3) (v := .bool false) rfl (by kernel_rfl) (by kernel_rfl) (by kernel_rfl) (fun _ _ _ h => h) (Or.inl ⟨by rfl, fun w hSw => by (try dsimp only at hSw); go_simp⟩) (by assumption) ?_
          try simp only [Act.put, List.setIfInBounds_toArray, List.set_cons_zero, List.set_cons_succ]
          refine wpAnyH_take (i := 4) (v := undef) rfl (by kernel_rfl) (by kernel_rfl) (by kernel_rfl) (fun _ _ _ h => h) (Or.inr ⟨by rfl, rfl⟩) (by assumption) ?_
          try simp only [Act.put, List.setIfInBounds_toArray, List.set_cons_zero, List.set_cons_succ]
          refine wpAnyH_take (i := 6) (v := undef) rfl (by kernel_rfl) (by kernel_rfl) (by kernel_rfl) (fun _ _ _ h => h) (Or.inr ⟨by rfl, rfl⟩) (by assumption) ?_
          try simp only [Act.put, List.setIfInBounds_toArray, List.set_cons_zero, List.set_cons_succ]
          refine wpAnyH_take (i := 5) (v := undef) rfl (by kernel_rfl) (by kernel_rfl) (by kernel_rfl) (fun _ _ _ h => h) (Or.inr ⟨by rfl, rfl⟩) (by assumption) ?_
          try simp only [Act.put, List.setIfInBounds_toArray, List.set_cons_zero, List.set_cons_succ]
          refine wpAnyH_take (i := 7) (v := undef) rfl (by kernel_rfl) (by kernel_rfl) (by kernel_rfl) (fun _ _ _ h => h) (Or.inr ⟨by rfl, rfl⟩) (by assumption) ?_
          try simp only [Act.put, List.setIfInBounds_toArray, List.set_cons_zero, List.set_cons_succ]
          refine wpAnyH_take (i := 8) (v := .bool false) rfl (by kernel_rfl) (by kernel_rfl) (by kernel_rfl) (fun _ _ _ h => h) (Or.inl ⟨by rfl, fun w hSw => by (try dsimp only at hSw); go_simp⟩) (by assumption) ?_
          try simp only [Act.put, List.setIfInBounds_toArray, List.set_cons_zero, List.set_cons_succ]
          refine wpAnyH_ready (rs := [9]) (by kernel_rfl) (by simp) ?_
          refine AllReadyH.cons rfl (fun K hK => ?_) AllReadyH.nil
          go_simp
          refine hK.out _ _ ?_ (fun hHeld => ?_)
          · with_reducible exact ⟨q0, q1, q2, q3, q4, q5, q6, q7, q8, q9, q10⟩
          clear hK K
          try simp only [Act.put, List.setIfInBounds_toArray, List.set_cons_zero, List.set_cons_succ]
          refine wpAnyH_ready (rs := [10]) (by kernel_rfl) (by simp) ?_
          refine AllReadyH.cons rfl (fun K hK => ?_) AllReadyH.nil
          go_simp
          refine hK.out _ _ ?_ (fun hHeld => ?_)
          · with_reducible exact ⟨q0, q1, q2, q3, q4, q5, q6, q7, q8, q9, q10⟩
          clear hK K
          try simp only [Act.put, List.setIfInBounds_toArray, List.set_cons_zero, List.set_cons_succ]
          refine wpAnyH_done (by kernel_rfl) ?_ _
          all_goals
            have VE := VA.eleven (.int .i64 3) (.slice none 0 0) (.int .i64 0) (.int .i64 0) (.int .i64 0) (.int .i64 0) (.int .i64 0) (.slice none 0 0) (.int .i64 a1) (.int .i64 a7) (.slice oa n cp)
            have hRE := ((((((((((((OnlyAt.refl w.heap.size W2).set 0 (.int .i64 3)).set 1 (.slice none 0 0)).set 2 (.int .i64 0)).set 3 (.int .i64 0)).set 4 (.int .i64 0)).set 5 (.int .i64 0)).set 6 (.int .i64 0)).set 7 (.slice none 0 0)).set 8 (.int .i64 a1)).set 9 (.int .i64 a7)).set 10 (.slice oa n cp)).rec hR VA (rec_no_text _ _ _ _ _ _ _ _ _ _ _ _ _ _ _ _ _)
            clear p0 d0 q0 g0 u0 p1 d1 q1 g1 u1 p2 d2 q2 g2 u2 p3 d3 q3 g3 u3 p4 d4 q4 g4 u4 p5 d5 q5 g5 u5 p6 d6 q6 g6 u6 p7 d7 q7 g7 u7 p8 d8 q8 g8 u8 p9 d9 q9 g9 u9 p10 d10 q10 g10 u10
            go_wp2_with fail
            refine bodyPost_ret (retG (k := 3) (v1 := .slice none 0 0) (d := ⟨[], 0, 0, 0, 0, 0⟩) (v2 := .slice none 0 0) (f := a1) (t := a7) (v3 := .slice oa n cp) rfl rfl rfl VE) rfl ?_
            exact ⟨⟨_, _, _, _, _, _, _, _, _, by rw [HQ.out]; rfl, hRE⟩, below_eleven BW (Nat.le_refl _) _ _ _ _ _ _ _ _ _ _ _⟩
        | true =>
          have HR1 := HRt none 0 0 none 0 0 oa n cp _ hRd
          rw [hr] at HR1 HQ
          have HP1 := fun (w5 : World) (h : RAt w5 none 0 0 none 0 0 oa n cp (⟨3, ⟨[], 0, 0, 0, 0, 0⟩, [], a1, a7, S⟩)) => HPt none 0 0 none 0 0 oa n cp w5 h hr
          have hq := tx_beq (putL (⟨3, ⟨[], 0, 0, 0, 0, 0⟩, [], a1, a7, S⟩)) L
          rw [hs] at hq
          rw [Bool.true_and] at HQ
          generalize tx (putL (⟨3, ⟨[], 0, 0, 0, 0, 0⟩, [], a1, a7, S⟩)) = y at *
          generalize decide (putL (⟨3, ⟨[], 0, 0, 0, 0, 0⟩, [], a1, a7, S⟩) = L) = Q at *
          clear hr HRt HPt
          go_region_held3 (fun w' => w'.cell? ⟨w.heap.size + 1, 0, none⟩ = some (.int .i64 3) ∧ w'.cell? ⟨w.heap.size + 1, 1, none⟩ = some (.slice none 0 0) ∧ w'.cell? ⟨w.heap.size + 1, 2, none⟩ = some (.int .i64 0) ∧ w'.cell? ⟨w.heap.size + 1, 3, none⟩ = some (.int .i64 0) ∧ w'.cell? ⟨w.heap.size + 1, 4, none⟩ = some (.int .i64 0) ∧ w'.cell? ⟨w.heap.size + 1, 5, none⟩ = some (.int .i64 0) ∧ w'.cell? ⟨w.heap.size + 1, 6, none⟩ = some (.int .i64 0) ∧ w'.cell? ⟨w.heap.size + 1, 7, none⟩ = some (.slice none 0 0) ∧ w'.cell? ⟨w.heap.size + 1, 8, none⟩ = some (.int .i64 a1) ∧ w'.cell? ⟨w.heap.size + 1, 9, none⟩ = some (.int .i64 a7) ∧ w'.cell? ⟨w.heap.size + 1, 10, none⟩ = some (.slice oa n cp))
            (first | with_reducible exact ⟨d0, d1, d2, d3, d4, d5, d6, d7, d8, d9, d10⟩ | with_reducible exact ⟨p0, p1, p2, p3, p4, p5, p6, p7, p8, p9, p10⟩ | with_reducible exact ⟨q0, q1, q2, q3, q4, q5, q6, q7, q8, q9, q10⟩)
            (first | (go_at_call 10; refine HR1.mono ?_; rintro e W2 ⟨rfl, BB⟩; have hR := hRd.below BB (Nat.le_refl _); have p0 := keepR (w := W.drew) BB p0; have p1 := keepR (w := W.drew) BB p1; have p2 := keepR (w := W.drew) BB p2; have p3 := keepR (w := W.drew) BB p3; have p4 := keepR (w := W.drew) BB p4; have p5 := keepR (w := W.drew) BB p5; have p6 := keepR (w := W.drew) BB p6; have p7 := keepR (w := W.drew) BB p7; have p8 := keepR (w := W.drew) BB p8; have p9 := keepR (w := W.drew) BB p9; have p10 := keepR (w := W.drew) BB p10; have VA := Vals.keep (w := W.drew) VA BB (Nat.le_refl _); have BW := BWd.trans (BB.mono hS4.out)) | (go_at_call 12; refine (HP1 _ hR).mono ?_; rintro e W3 ⟨rfl, BB⟩; have hR := hR.below BB (Nat.le_refl _); have p0 := keepR BB p0; have p1 := keepR BB p1; have p2 := keepR BB p2; have p3 := keepR BB p3; have p4 := keepR BB p4; have p5 := keepR BB p5; have p6 := keepR BB p6; have p7 := keepR BB p7; have p8 := keepR BB p8; have p9 := keepR BB p9; have p10 := keepR BB p10; have VA := VA.keep BB (Nat.le_refl _); have BW := BW.trans (BB.mono BW.size); have g0 := VA.free 0; have g1 := VA.free 1; have g2 := VA.free 2; have g3 := VA.free 3; have g4 := VA.free 4; have g5 := VA.free 5; have g6 := VA.free 6; have g7 := VA.free 7; have g8 := VA.free 8; have g9 := VA.free 9; have g10 := VA.free 10; have u0 : W3.cell? ⟨w.heap.size, 0, none⟩ = some (.int .i64 0) := VA.cell 0; have u1 : W3.cell? ⟨w.heap.size, 1, none⟩ = some (.slice none 0 0) := VA.cell 1; have u2 : W3.cell? ⟨w.heap.size, 2, none⟩ = some (.int .i64 0) := VA.cell 2; have u3 : W3.cell? ⟨w.heap.size, 3, none⟩ = some (.int .i64 0) := VA.cell 3; have u4 : W3.cell? ⟨w.heap.size, 4, none⟩ = some (.int .i64 0) := VA.cell 4; have u5 : W3.cell? ⟨w.heap.size, 5, none⟩ = some (.int .i64 0) := VA.cell 5; have u6 : W3.cell? ⟨w.heap.size, 6, none⟩ = some (.int .i64 0) := VA.cell 6; have u7 : W3.cell? ⟨w.heap.size, 7, none⟩ = some (.slice none 0 0) := VA.cell 7; have u8 : W3.cell? ⟨w.heap.size, 8, none⟩ = some (.int .i64 0) := VA.cell 8; have u9 : W3.cell? ⟨w.heap.size, 9, none⟩ = some (.int .i64 0) := VA.cell 9; have u10 : W3.cell? ⟨w.heap.size, 10, none⟩ = some (.slice none 0 0) := VA.cell 10; have q0 := eleven_keep p0 (hz1 0) (.int .i64 3) (.slice none 0 0) (.int .i64 0) (.int .i64 0) (.int .i64 0) (.int .i64 0) (.int .i64 0) (.slice none 0 0) (.int .i64 a1) (.int .i64 a7) (.slice oa n cp); have q1 := eleven_keep p1 (hz1 1) (.int .i64 3) (.slice none 0 0) (.int .i64 0) (.int .i64 0) (.int .i64 0) (.int .i64 0) (.int .i64 0) (.slice none 0 0) (.int .i64 a1) (.int .i64 a7) (.slice oa n cp); have q2 := eleven_keep p2 (hz1 2) (.int .i64 3) (.slice none 0 0) (.int .i64 0) (.int .i64 0) (.int .i64 0) (.int .i64 0) (.int .i64 0) (.slice none 0 0) (.int .i64 a1) (.int .i64 a7) (.slice oa n cp); have q3 := eleven_keep p3 (hz1 3) (.int .i64 3) (.slice none 0 0) (.int .i64 0) (.int .i64 0) (.int .i64 0) (.int .i64 0) (.int .i64 0) (.slice none 0 0) (.int .i64 a1) (.int .i64 a7) (.slice oa n cp); have q4 := eleven_keep p4 (hz1 4) (.int .i64 3) (.slice none 0 0) (.int .i64 0) (.int .i64 0) (.int .i64 0) (.int .i64 0) (.int .i64 0) (.slice none 0 0) (.int .i64 a1) (.int .i64 a7) (.slice oa n cp); have q5 := eleven_keep p5 (hz1 5) (.int .i64 3) (.slice none 0 0) (.int .i64 0) (.int .i64 0) (.int .i64 0) (.int .i64 0) (.int .i64 0) (.slice none 0 0) (.int .i64 a1) (.int .i64 a7) (.slice oa n cp); have q6 := eleven_keep p6 (hz1 6) (.int .i64 3) (.slice none 0 0) (.int .i64 0) (.int .i64 0) (.int .i64 0) (.int .i64 0) (.int .i64 0) (.slice none 0 0) (.int .i64 a1) (.int .i64 a7) (.slice oa n cp); have q7 := eleven_keep p7 (hz1 7) (.int .i64 3) (.slice none 0 0) (.int .i64 0) (.int .i64 0) (.int .i64 0) (.int .i64 0) (.int .i64 0) (.slice none 0 0) (.int .i64 a1) (.int .i64 a7) (.slice oa n cp); have q8 := eleven_keep p8 (hz1 8) (.int .i64 3) (.slice none 0 0) (.int .i64 0) (.int .i64 0) (.int .i64 0) (.int .i64 0) (.int .i64 0) (.slice none 0 0) (.int .i64 a1) (.int .i64 a7) (.slice oa n cp); have q9 := eleven_keep p9 (hz1 9) (.int .i64 3) (.slice none 0 0) (.int .i64 0) (.int .i64 0) (.int .i64 0) (.int .i64 0) (.int .i64 0) (.slice none 0 0) (.int .i64 a1) (.int .i64 a7) (.slice oa n cp); have q10 := eleven_keep p10 (hz1 10) (.int .i64 3) (.slice none 0 0) (.int .i64 0) (.int .i64 0) (.int .i64 0) (.int .i64 0) (.int .i64 0) (.slice none 0 0) (.int .i64 a1) (.int .i64 a7) (.slice oa n cp)))
          all_goals
            have VE := VA.eleven (.int .i64 3) (.slice none 0 0) (.int .i64 0) (.int .i64 0) (.int .i64 0) (.int .i64 0) (.int .i64 0) (.slice none 0 0) (.int .i64 a1) (.int .i64 a7) (.slice oa n cp)
            have hRE := ((((((((((((OnlyAt.refl w.heap.size W3).set 0 (.int .i64 3)).set 1 (.slice none 0 0)).set 2 (.int .i64 0)).set 3 (.int .i64 0)).set 4 (.int .i64 0)).set 5 (.int .i64 0)).set 6 (.int .i64 0)).set 7 (.slice none 0 0)).set 8 (.int .i64 a1)).set 9 (.int .i64 a7)).set 10 (.slice oa n cp)).rec hR VA (rec_no_text _ _ _ _ _ _ _ _ _ _ _ _ _ _ _ _ _)
            clear p0 d0 q0 g0 u0 p1 d1 q1 g1 u1 p2 d2 q2 g2 u2 p3 d3 q3 g3 u3 p4 d4 q4 g4 u4 p5 d5 q5 g5 u5 p6 d6 q6 g6 u6 p7 d7 q7 g7 u7 p8 d8 q8 g8 u8 p9 d9 q9 g9 u9 p10 d10 q10 g10 u10
            go_wp2_with fail
            refine bodyPost_ret (retG (k := 3) (v1 := .slice none 0 0) (d := ⟨[], 0, 0, 0, 0, 0⟩) (v2 := .slice none 0 0) (f := a1) (t := a7) (v3 := .slice oa n cp) rfl rfl rfl VE) rfl ?_
            exact ⟨⟨_, _, _, _, _, _, _, _, _, by rw [HQ.out]; rfl, hRE⟩, below_eleven BW (Nat.le_refl _) _ _ _ _ _ _ _ _ _ _ _⟩
      · skip
        have hP : parseN L = ⟨(atN L 0 : Int), ⟨[], 0, 0, 0, 0, 0⟩, [], 0, 0, []⟩ := by unfold parseN; rw [if_neg k1, if_neg k2, if_neg k3]
        rw [hP] at hSh HB
        rw [hP]
        have e1 : ((atN L 0 : Int) == 1) = false := by simp; omega
        have e2 : ((atN L 0 : Int) == 2) = false := by simp; omega
        have e3 : ((atN L 0 : Int) == 3) = false := by simp; omega
        clear HA HT HS HK hP k1 k2 k3
        obtain ⟨s, hs⟩ : ∃ s, tx L = s := ⟨_, rfl⟩
        rw [hs] at h0  
        rw [hs]
        obtain ⟨QB, hQB⟩ : ∃ QB, Hid (getB L = QB) := ⟨_, rfl⟩
        rw [hQB.out] at HB
        rw [hQB.out]
        clear hQB
        generalize ((atN L 0 : Nat) : Int) = a0 at *
        have HQ := HB
        clear HB
        have HRt := fun (o1 : Option Addr) (n1 c1 : Nat) (o2 : Option Addr) (n2 c2 : Nat) (o3 : Option Addr) (n3 c3 : Nat) (w : World) (h : RAt w o1 n1 c1 o2 n2 c2 o3 n3 c3 ⟨a0, ⟨[], 0, 0, 0, 0, 0⟩, [], 0, 0, []⟩) => refRec_any o1 n1 c1 o2 n2 c2 o3 n3 c3 _ w h hSh
        have HPt := fun (o1 : Option Addr) (n1 c1 : Nat) (o2 : Option Addr) (n2 c2 : Nat) (o3 : Option Addr) (n3 c3 : Nat) (w : World) (h : RAt w o1 n1 c1 o2 n2 c2 o3 n3 c3 ⟨a0, ⟨[], 0, 0, 0, 0, 0⟩, [], 0, 0, []⟩) (hr : recR ⟨a0, ⟨[], 0, 0, 0, 0, 0⟩, [], 0, 0, []⟩ = true) => refPut_any o1 n1 c1 o2 n2 c2 o3 n3 c3 _ w h hr
        obtain ⟨VA0, VB0, B0⟩ := pair_boxes w 29 29 zRV #[.int .i64 a0, .slice none 0 0, .int .i64 0, .int .i64 0, .int .i64 0, .int .i64 0, .int .i64 0, .slice none 0 0, .int .i64 0, .int .i64 0, .slice none 0 0]
        go_enter Try.func14, Try.ntmps14
        go_wp2_with fail
        refine (h0 _).mono ?_
        rintro e w0 ⟨rfl, rfl⟩
        go_wp2_with fail
        generalize (w.alloc _).alloc _ = W at *
        have VA := VA0
        have VB := VB0
        have BW := B0
        have hBW := BW.size
        clear VA0 VB0 B0 h0
        have hR : RAt W none 0 0 none 0 0 none 0 0 (⟨a0, ⟨[], 0, 0, 0, 0, 0⟩, [], 0, 0, []⟩ : Rc) := ⟨Ls.nil _ _ _, Ls.nil _ _ _, Ms.nil _ _ _, by omega, by omega, by omega⟩
        have p0 : W.cell? ⟨w.heap.size + 1, 0, none⟩ = some (.int .i64 a0) := VB.cell 0
        have p1 : W.cell? ⟨w.heap.size + 1, 1, none⟩ = some (.slice none 0 0) := VB.cell 1
        have p2 : W.cell? ⟨w.heap.size + 1, 2, none⟩ = some (.int .i64 0) := VB.cell 2
        have p3 : W.cell? ⟨w.heap.size + 1, 3, none⟩ = some (.int .i64 0) := VB.cell 3
        have p4 : W.cell? ⟨w.heap.size + 1, 4, none⟩ = some (.int .i64 0) := VB.cell 4
        have p5 : W.cell? ⟨w.heap.size + 1, 5, none⟩ = some (.int .i64 0) := VB.cell 5
        have p6 : W.cell? ⟨w.heap.size + 1, 6, none⟩ = some (.int .i64 0) := VB.cell 6
        have p7 : W.cell? ⟨w.heap.size + 1, 7, none⟩ = some (.slice none 0 0) := VB.cell 7
        have p8 : W.cell? ⟨w.heap.size + 1, 8, none⟩ = some (.int .i64 0) := VB.cell 8
        have p9 : W.cell? ⟨w.heap.size + 1, 9, none⟩ = some (.int .i64 0) := VB.cell 9
        have p10 : W.cell? ⟨w.heap.size + 1, 10, none⟩ = some (.slice none 0 0) := VB.cell 10
        have d0 : W.drew.cell? ⟨w.heap.size + 1, 0, none⟩ = some (.int .i64 a0) := p0
        have d1 : W.drew.cell? ⟨w.heap.size + 1, 1, none⟩ = some (.slice none 0 0) := p1
        have d2 : W.drew.cell? ⟨w.heap.size + 1, 2, none⟩ = some (.int .i64 0) := p2
        have d3 : W.drew.cell? ⟨w.heap.size + 1, 3, none⟩ = some (.int .i64 0) := p3
        have d4 : W.drew.cell? ⟨w.heap.size + 1, 4, none⟩ = some (.int .i64 0) := p4
        have d5 : W.drew.cell? ⟨w.heap.size + 1, 5, none⟩ = some (.int .i64 0) := p5
        have d6 : W.drew.cell? ⟨w.heap.size + 1, 6, none⟩ = some (.int .i64 0) := p6
        have d7 : W.drew.cell? ⟨w.heap.size + 1, 7, none⟩ = some (.slice none 0 0) := p7
        have d8 : W.drew.cell? ⟨w.heap.size + 1, 8, none⟩ = some (.int .i64 0) := p8
        have d9 : W.drew.cell? ⟨w.heap.size + 1, 9, none⟩ = some (.int .i64 0) := p9
        have d10 : W.drew.cell? ⟨w.heap.size + 1, 10, none⟩ = some (.slice none 0 0) := p10
        have hz1 : ∀ i : Nat, (⟨w.heap.size + 1, i, none⟩ : Addr).block ≠ w.heap.size := fun i => by show w.heap.size + 1 ≠ _; omega
        have hS4 : Hid (w.heap.size ≤ W.drew.heap.size) := by show w.heap.size ≤ W.heap.size; exact hBW
        have hRd := hR.below (Below.refl _ W).drew (Nat.le_refl _)
        have BWd := BW.drew
        clear VB hR hBW BW
        cases hr : recR (⟨a0, ⟨[], 0, 0, 0, 0, 0⟩, [], 0, 0, []⟩) with
        | false =>
          have HR1 := HRt none 0 0 none 0 0 none 0 0 _ hRd
          rw [hr] at HR1 HQ
          clear hr HRt HPt
          refine wp_region_held_drew (S := (fun w' => w'.cell? ⟨w.heap.size + 1, 0, none⟩ = some (.int .i64 a0) ∧ w'.cell? ⟨w.heap.size + 1, 1, none⟩ = some (.slice none 0 0) ∧ w'.cell? ⟨w.heap.size + 1, 2, none⟩ = some (.int .i64 0) ∧ w'.cell? ⟨w.heap.size + 1, 3, none⟩ = some (.int .i64 0) ∧ w'.cell? ⟨w.heap.size + 1, 4, none⟩ = some (.int .i64 0) ∧ w'.cell? ⟨w.heap.size + 1, 5, none⟩ = some (.int .i64 0) ∧ w'.cell? ⟨w.heap.size + 1, 6, none⟩ = some (.int .i64 0) ∧ w'.cell? ⟨w.heap.size + 1, 7, none⟩ = some (.slice none 0 0) ∧ w'.cell? ⟨w.heap.size + 1, 8, none⟩ = some (.int .i64 0) ∧ w'.cell? ⟨w.heap.size + 1, 9, none⟩ = some (.int .i64 0) ∧ w'.cell? ⟨w.heap.size + 1, 10, none⟩ = some (.slice none 0 0))) (by kernel_rfl) ?_ (fun hHeld => ?_)
          · exact ⟨d0, d1, d2, d3, d4, d5, d6, d7, d8, d9, d10⟩
          refine wpAnyH_take (i := 0) (v := .agg #[.int .i64 a0, .slice none 0 0, .int .i64 0, .int .i64 0, .int .i64 0, .int .i64 0, .int .i64 0, .slice none 0 0, .int .i64 0, .int .i64 0, .slice none 0 0]) rfl (by kernel_rfl) (by kernel_rfl) (by kernel_rfl) (fun _ _ _ h => h) (Or.inl ⟨by rfl, fun w hSw => by (try dsimp only at hSw); go_simp⟩) (by assumption) ?_
          try simp only [Act.put, List.setIfInBounds_toArray, List.set_cons_zero, List.set_cons_succ]
          refine wpAnyH_take (i := 1) (v := .agg #[.int .i64 a0, .slice none 0 0, .int .i64 0, .int .i64 0, .int .i64 0, .int .i64 0, .int .i64 0, .slice none 0 0, .int .i64 0, .int .i64 0, .slice none 0 0]) rfl (by kernel_rfl) (by kernel_rfl) (by kernel_rfl) (fun _ _ _ h => h) (Or.inl ⟨by rfl, fun w hSw => by (try dsimp only at hSw); go_simp⟩) (by assumption) ?_
          try simp only [Act.put, List.setIfInBounds_toArray, List.set_cons_zero, List.set_cons_succ]
          refine wpAnyH_ready (rs := [2]) (by kernel_rfl) (by simp) ?_
          refine AllReadyH.cons rfl (fun K hK => ?_) AllReadyH.nil
          go_simp
          refine HR1.mono ?_; rintro e W2 ⟨rfl, BB⟩; have hR := hRd.below BB (Nat.le_refl _); have p0 := keepR (w := W.drew) BB p0; have p1 := keepR (w := W.drew) BB p1; have p2 := keepR (w := W.drew) BB p2; have p3 := keepR (w := W.drew) BB p3; have p4 := keepR (w := W.drew) BB p4; have p5 := keepR (w := W.drew) BB p5; have p6 := keepR (w := W.drew) BB p6; have p7 := keepR (w := W.drew) BB p7; have p8 := keepR (w := W.drew) BB p8; have p9 := keepR (w := W.drew) BB p9; have p10 := keepR (w := W.drew) BB p10; have VA := Vals.keep (w := W.drew) VA BB (Nat.le_refl _); have BW := BWd.trans (BB.mono hS4.out); have g0 := VA.free 0; have g1 := VA.free 1; have g2 := VA.free 2; have g3 := VA.free 3; have g4 := VA.free 4; have g5 := VA.free 5; have g6 := VA.free 6; have g7 := VA.free 7; have g8 := VA.free 8; have g9 := VA.free 9; have g10 := VA.free 10; have u0 : W2.cell? ⟨w.heap.size, 0, none⟩ = some (.int .i64 0) := VA.cell 0; have u1 : W2.cell? ⟨w.heap.size, 1, none⟩ = some (.slice none 0 0) := VA.cell 1; have u2 : W2.cell? ⟨w.heap.size, 2, none⟩ = some (.int .i64 0) := VA.cell 2; have u3 : W2.cell? ⟨w.heap.size, 3, none⟩ = some (.int .i64 0) := VA.cell 3; have u4 : W2.cell? ⟨w.heap.size, 4, none⟩ = some (.int .i64 0) := VA.cell 4; have u5 : W2.cell? ⟨w.heap.size, 5, none⟩ = some (.int .i64 0) := VA.cell 5; have u6 : W2.cell? ⟨w.heap.size, 6, none⟩ = some (.int .i64 0) := VA.cell 6; have u7 : W2.cell? ⟨w.heap.size, 7, none⟩ = some (.slice none 0 0) := VA.cell 7; have u8 : W2.cell? ⟨w.heap.size, 8, none⟩ = some (.int .i64 0) := VA.cell 8; have u9 : W2.cell? ⟨w.heap.size, 9, none⟩ = some (.int .i64 0) := VA.cell 9; have u10 : W2.cell? ⟨w.heap.size, 10, none⟩ = some (.slice none 0 0) := VA.cell 10; have q0 := eleven_keep p0 (hz1 0) (.int .i64 a0) (.slice none 0 0) (.int .i64 0) (.int .i64 0) (.int .i64 0) (.int .i64 0) (.int .i64 0) (.slice none 0 0) (.int .i64 0) (.int .i64 0) (.slice none 0 0); have q1 := eleven_keep p1 (hz1 1) (.int .i64 a0) (.slice none 0 0) (.int .i64 0) (.int .i64 0) (.int .i64 0) (.int .i64 0) (.int .i64 0) (.slice none 0 0) (.int .i64 0) (.int .i64 0) (.slice none 0 0); have q2 := eleven_keep p2 (hz1 2) (.int .i64 a0) (.slice none 0 0) (.int .i64 0) (.int .i64 0) (.int .i64 0) (.int .i64 0) (.int .i64 0) (.slice none 0 0) (.int .i64 0) (.int .i64 0) (.slice none 0 0); have q3 := eleven_keep p3 (hz1 3) (.int .i64 a0) (.slice none 0 0) (.int .i64 0) (.int .i64 0) (.int .i64 0) (.int .i64 0) (.int .i64 0) (.slice none 0 0) (.int .i64 0) (.int .i64 0) (.slice none 0 0); have q4 := eleven_keep p4 (hz1 4) (.int .i64 a0) (.slice none 0 0) (.int .i64 0) (.int .i64 0) (.int .i64 0) (.int .i64 0) (.int .i64 0) (.slice none 0 0) (.int .i64 0) (.int .i64 0) (.slice none 0 0); have q5 := eleven_keep p5 (hz1 5) (.int .i64 a0) (.slice none 0 0) (.int .i64 0) (.int .i64 0) (.int .i64 0) (.int .i64 0) (.int .i64 0) (.slice none 0 0) (.int .i64 0) (.int .i64 0) (.slice none 0 0); have q6 := eleven_keep p6 (hz1 6) (.int .i64 a0) (.slice none 0 0) (.int .i64 0) (.int .i64 0) (.int .i64 0) (.int .i64 0) (.int .i64 0) (.slice none 0 0) (.int .i64 0) (.int .i64 0) (.slice none 0 0); have q7 := eleven_keep p7 (hz1 7) (.int .i64 a0) (.slice none 0 0) (.int .i64 0) (.int .i64 0) (.int .i64 0) (.int .i64 0) (.int .i64 0) (.slice none 0 0) (.int .i64 0) (.int .i64 0) (.slice none 0 0); have q8 := eleven_keep p8 (hz1 8) (.int .i64 a0) (.slice none 0 0) (.int .i64 0) (.int .i64 0) (.int .i64 0) (.int .i64 0) (.int .i64 0) (.slice none 0 0) (.int .i64 0) (.int .i64 0) (.slice none 0 0); have q9 := eleven_keep p9 (hz1 9) (.int .i64 a0) (.slice none 0 0) (.int .i64 0) (.int .i64 0) (.int .i64 0) (.int .i64 0) (.int .i64 0) (.slice none 0 0) (.int .i64 0) (.int .i64 0) (.slice none 0 0); have q10 := eleven_keep p10 (hz1 10) (.int .i64 a0) (.slice none 0 0) (.int .i64 0) (.int .i64 0) (.int .i64 0) (.int .i64 0) (.int .i64 0) (.slice none 0 0) (.int .i64 0) (.int .i64 0) (.slice none 0 0)
          go_wp2_with fail
          refine hK.out _ _ ?_ (fun hHeld => ?_)
          · with_reducible exact ⟨p0, p1, p2, p3, p4, p5, p6, p7, p8, p9, p10⟩
          clear hK K
          try simp only [Act.put, List.setIfInBounds_toArray, List.set_cons_zero, List.set_cons_succ]
          refine wpAnyH_take (i := 3) (v := .bool false) rfl (by kernel_rfl) (by kernel_rfl) (by kernel_rfl) (fun _ _ _ h => h) (Or.inl ⟨by rfl, fun w hSw => by (try dsimp only at hSw); go_simp⟩) (by assumption) ?_
          try simp only [Act.put, List.setIfInBounds_toArray, List.set_cons_zero, List.set_cons_succ]
          refine wpAnyH_take (i := 4) (v := undef) rfl (by kernel_rfl) (by kernel_rfl) (by kernel_rfl) (fun _ _ _ h => h) (Or.inr ⟨by rfl, rfl⟩) (by assumption) ?_
          try simp only [Act.put, List.setIfInBounds_toArray, List.set_cons_zero, List.set_cons_succ]
          refine wpAnyH_take (i := 6) (v := undef) rfl (by kernel_rfl) (by kernel_rfl) (by kernel_rfl) (fun _ _ _ h => h) (Or.inr ⟨by rfl, rfl⟩) (by assumption) ?_
          try simp only [Act.put, List.setIfInBounds_toArray, List.set_cons_zero, List.set_cons_succ]
          refine wpAnyH_take (i := 5) (v := undef) rfl (by kernel_rfl) (by kernel_rfl) (by kernel_rfl) (fun _ _ _ h => h) (Or.inr ⟨by rfl, rfl⟩) (by assumption) ?_
          try simp only [Act.put, List.setIfInBounds_toArray, List.set_cons_zero, List.set_cons_succ]
          refine wpAnyH_take (i := 7) (v := undef) rfl (by kernel_rfl) (by kernel_rfl) (by kernel_rfl) (fun _ _ _ h => h) (Or.inr ⟨by rfl, rfl⟩) (by assumption) ?_
          try simp only [Act.put, List.setIfInBounds_toArray, List.set_cons_zero, List.set_cons_succ]
          refine wpAnyH_take (i := 8) (v := .bool false) rfl (by kernel_rfl) (by kernel_rfl) (by kernel_rfl) (fun _ _ _ h => h) (Or.inl ⟨by rfl, fun w hSw => by (try dsimp only at hSw); go_simp⟩) (by assumption) ?_
          try simp only [Act.put, List.setIfInBounds_toArray, List.set_cons_zero, List.set_cons_succ]
          refine wpAnyH_ready (rs := [9]) (by kernel_rfl) (by simp) ?_
          refine AllReadyH.cons rfl (fun K hK => ?_) AllReadyH.nil
          go_simp
          refine hK.out _ _ ?_ (fun hHeld => ?_)
          · with_reducible exact ⟨q0, q1, q2, q3, q4, q5, q6, q7, q8, q9, q10⟩
          clear hK K
          try simp only [Act.put, List.setIfInBounds_toArray, List.set_cons_zero, List.set_cons_succ]
          refine wpAnyH_ready (rs := [10]) (by kernel_rfl) (by simp) ?_
          refine AllReadyH.cons rfl (fun K hK => ?_) AllReadyH.nil
          go_simp
          refine hK.out _ _ ?_ (fun hHeld => ?_)
          · with_reducible exact ⟨q0, q1, q2, q3, q4, q5, q6, q7, q8, q9, q10⟩
          clear hK K
          try simp only [Act.put, List.setIfInBounds_toArray, List.set_cons_zero, List.set_cons_succ]
          refine wpAnyH_done (by kernel_rfl) ?_ _
          all_goals
            have VE := VA.eleven (.int .i64 a0) (.slice none 0 0) (.int .i64 0) (.int .i64 0) (.int .i64 0) (.int .i64 0) (.int .i64 0) (.slice none 0 0) (.int .i64 0) (.int .i64 0) (.slice none 0 0)
            have hRE := ((((((((((((OnlyAt.refl w.heap.size W2).set 0 (.int .i64 a0)).set 1 (.slice none 0 0)).set 2 (.int .i64 0)).set 3 (.int .i64 0)).set 4 (.int .i64 0)).set 5 (.int .i64 0)).set 6 (.int .i64 0)).set 7 (.slice none 0 0)).set 8 (.int .i64 0)).set 9 (.int .i64 0)).set 10 (.slice none 0 0)).rec hR VA (rec_no_text _ _ _ _ _ _ _ _ _ _ _ _ _ _ _ _ _)
            clear p0 d0 q0 g0 u0 p1 d1 q1 g1 u1 p2 d2 q2 g2 u2 p3 d3 q3 g3 u3 p4 d4 q4 g4 u4 p5 d5 q5 g5 u5 p6 d6 q6 g6 u6 p7 d7 q7 g7 u7 p8 d8 q8 g8 u8 p9 d9 q9 g9 u9 p10 d10 q10 g10 u10
            go_wp2_with fail
            refine bodyPost_ret (retG (k := a0) (v1 := .slice none 0 0) (d := ⟨[], 0, 0, 0, 0, 0⟩) (v2 := .slice none 0 0) (f := 0) (t := 0) (v3 := .slice none 0 0) rfl rfl rfl VE) rfl ?_
            exact ⟨⟨_, _, _, _, _, _, _, _, _, by rw [HQ.out]; rfl, hRE⟩, below_eleven BW (Nat.le_refl _) _ _ _ _ _ _ _ _ _ _ _⟩
        | true =>
          have HR1 := HRt none 0 0 none 0 0 none 0 0 _ hRd
          rw [hr] at HR1 HQ
          have HP1 := fun (w5 : World) (h : RAt w5 none 0 0 none 0 0 none 0 0 (⟨a0, ⟨[], 0, 0, 0, 0, 0⟩, [], 0, 0, []⟩)) => HPt none 0 0 none 0 0 none 0 0 w5 h hr
          have hq := tx_beq (putL (⟨a0, ⟨[], 0, 0, 0, 0, 0⟩, [], 0, 0, []⟩)) L
          rw [hs] at hq
          rw [Bool.true_and] at HQ
          generalize tx (putL (⟨a0, ⟨[], 0, 0, 0, 0, 0⟩, [], 0, 0, []⟩)) = y at *
          generalize decide (putL (⟨a0, ⟨[], 0, 0, 0, 0, 0⟩, [], 0, 0, []⟩) = L) = Q at *
          clear hr HRt HPt
          go_region_held3 (fun w' => w'.cell? ⟨w.heap.size + 1, 0, none⟩ = some (.int .i64 a0) ∧ w'.cell? ⟨w.heap.size + 1, 1, none⟩ = some (.slice none 0 0) ∧ w'.cell? ⟨w.heap.size + 1, 2, none⟩ = some (.int .i64 0) ∧ w'.cell? ⟨w.heap.size + 1, 3, none⟩ = some (.int .i64 0) ∧ w'.cell? ⟨w.heap.size + 1, 4, none⟩ = some (.int .i64 0) ∧ w'.cell? ⟨w.heap.size + 1, 5, none⟩ = some (.int .i64 0) ∧ w'.cell? ⟨w.heap.size + 1, 6, none⟩ = some (.int .i64 0) ∧ w'.cell? ⟨w.heap.size + 1, 7, none⟩ = some (.slice none 0 0) ∧ w'.cell? ⟨w.heap.size + 1, 8, none⟩ = some (.int .i64 0) ∧ w'.cell? ⟨w.heap.size + 1, 9, none⟩ = some (.int .i64 0) ∧ w'.cell? ⟨w.heap.size + 1, 10, none⟩ = some (.slice none 0 0))
            (first | with_reducible exact ⟨d0, d1, d2, d3, d4, d5, d6, d7, d8, d9, d10⟩ | with_reducible exact ⟨p0, p1, p2, p3, p4, p5, p6, p7, p8, p9, p10⟩ | with_reducible exact ⟨q0, q1, q2, q3, q4, q5, q6, q7, q8, q9, q10⟩)
            (first | (go_at_call 10; refine HR1.mono ?_; rintro e W2 ⟨rfl, BB⟩; have hR := hRd.below BB (Nat.le_refl _); have p0 := keepR (w := W.drew) BB p0; have p1 := keepR (w := W.drew) BB p1; have p2 := keepR (w := W.drew) BB p2; have p3 := keepR (w := W.drew) BB p3; have p4 := keepR (w := W.drew) BB p4; have p5 := keepR (w := W.drew) BB p5; have p6 := keepR (w := W.drew) BB p6; have p7 := keepR (w := W.drew) BB p7; have p8 := keepR (w := W.drew) BB p8; have p9 := keepR (w := W.drew) BB p9; have p10 := keepR (w := W.drew) BB p10; have VA := Vals.keep (w := W.drew) VA BB (Nat.le_refl _); have BW := BWd.trans (BB.mono hS4.out)) | (go_at_call 12; refine (HP1 _ hR).mono ?_; rintro e W3 ⟨rfl, BB⟩; have hR := hR.below BB (Nat.le_refl _); have p0 := keepR BB p0; have p1 := keepR BB p1; have p2 := keepR BB p2; have p3 := keepR BB p3; have p4 := keepR BB p4; have p5 := keepR BB p5; have p6 := keepR BB p6; have p7 := keepR BB p7; have p8 := keepR BB p8; have p9 := keepR BB p9; have p10 := keepR BB p10; have VA := VA.keep BB (Nat.le_refl _); have BW := BW.trans (BB.mono BW.size); have g0 := VA.free 0; have g1 := VA.free 1; have g2 := VA.free 2; have g3 := VA.free 3; have g4 := VA.free 4; have g5 := VA.free 5; have g6 := VA.free 6; have g7 := VA.free 7; have g8 := VA.free 8; have g9 := VA.free 9; have g10 := VA.free 10; have u0 : W3.cell? ⟨w.heap.size, 0, none⟩ = some (.int .i64 0) := VA.cell 0; have u1 : W3.cell? ⟨w.heap.size, 1, none⟩ = some (.slice none 0 0) := VA.cell 1; have u2 : W3.cell? ⟨w.heap.size, 2, none⟩ = some (.int .i64 0) := VA.cell 2; have u3 : W3.cell? ⟨w.heap.size, 3, none⟩ = some (.int .i64 0) := VA.cell 3; have u4 : W3.cell? ⟨w.heap.size, 4, none⟩ = some (.int .i64 0) := VA.cell 4; have u5 : W3.cell? ⟨w.heap.size, 5, none⟩ = some (.int .i64 0) := VA.cell 5; have u6 : W3.cell? ⟨w.heap.size, 6, none⟩ = some (.int .i64 0) := VA.cell 6; have u7 : W3.cell? ⟨w.heap.size, 7, none⟩ = some (.slice none 0 0) := VA.cell 7; have u8 : W3.cell? ⟨w.heap.size, 8, none⟩ = some (.int .i64 0) := VA.cell 8; have u9 : W3.cell? ⟨w.heap.size, 9, none⟩ = some (.int .i64 0) := VA.cell 9; have u10 : W3.cell? ⟨w.heap.size, 10, none⟩ = some (.slice none 0 0) := VA.cell 10; have q0 := eleven_keep p0 (hz1 0) (.int .i64 a0) (.slice none 0 0) (.int .i64 0) (.int .i64 0) (.int .i64 0) (.int .i64 0) (.int .i64 0) (.slice none 0 0) (.int .i64 0) (.int .i64 0) (.slice none 0 0); have q1 := eleven_keep p1 (hz1 1) (.int .i64 a0) (.slice none 0 0) (.int .i64 0) (.int .i64 0) (.int .i64 0) (.int .i64 0) (.int .i64 0) (.slice none 0 0) (.int .i64 0) (.int .i64 0) (.slice none 0 0); have q2 := eleven_keep p2 (hz1 2) (.int .i64 a0) (.slice none 0 0) (.int .i64 0) (.int .i64 0) (.int .i64 0) (.int .i64 0) (.int .i64 0) (.slice none 0 0) (.int .i64 0) (.int .i64 0) (.slice none 0 0); have q3 := eleven_keep p3 (hz1 3) (.int .i64 a0) (.slice none 0 0) (.int .i64 0) (.int .i64 0) (.int .i64 0) (.int .i64 0) (.int .i64 0) (.slice none 0 0) (.int .i64 0) (.int .i64 0) (.slice none 0 0); have q4 := eleven_keep p4 (hz1 4) (.int .i64 a0) (.slice none 0 0) (.int .i64 0) (.int .i64 0) (.int .i64 0) (.int .i64 0) (.int .i64 0) (.slice none 0 0) (.int .i64 0) (.int .i64 0) (.slice none 0 0); have q5 := eleven_keep p5 (hz1 5) (.int .i64 a0) (.slice none 0 0) (.int .i64 0) (.int .i64 0) (.int .i64 0) (.int .i64 0) (.int .i64 0) (.slice none 0 0) (.int .i64 0) (.int .i64 0) (.slice none 0 0); have q6 := eleven_keep p6 (hz1 6) (.int .i64 a0) (.slice none 0 0) (.int .i64 0) (.int .i64 0) (.int .i64 0) (.int .i64 0) (.int .i64 0) (.slice none 0 0) (.int .i64 0) (.int .i64 0) (.slice none 0 0); have q7 := eleven_keep p7 (hz1 7) (.int .i64 a0) (.slice none 0 0) (.int .i64 0) (.int .i64 0) (.int .i64 0) (.int .i64 0) (.int .i64 0) (.slice none 0 0) (.int .i64 0) (.int .i64 0) (.slice none 0 0); have q8 := eleven_keep p8 (hz1 8) (.int .i64 a0) (.slice none 0 0) (.int .i64 0) (.int .i64 0) (.int .i64 0) (.int .i64 0) (.int .i64 0) (.slice none 0 0) (.int .i64 0) (.int .i64 0) (.slice none 0 0); have q9 := eleven_keep p9 (hz1 9) (.int .i64 a0) (.slice none 0 0) (.int .i64 0) (.int .i64 0) (.int .i64 0) (.int .i64 0) (.int .i64 0) (.slice none 0 0) (.int .i64 0) (.int .i64 0) (.slice none 0 0); have q10 := eleven_keep p10 (hz1 10) (.int .i64 a0) (.slice none 0 0) (.int .i64 0) (.int .i64 0) (.int .i64 0) (.int .i64 0) (.int .i64 0) (.slice none 0 0) (.int .i64 0) (.int .i64 0) (.slice none 0 0)))
          all_goals
            have VE := VA.eleven (.int .i64 a0) (.slice none 0 0) (.int .i64 0) (.int .i64 0) (.int .i64 0) (.int .i64 0) (.int .i64 0) (.slice none 0 0) (.int .i64 0) (.int .i64 0) (.slice none 0 0)
            have hRE := ((((((((((((OnlyAt.refl w.heap.size W3).set 0 (.int .i64 a0)).set 1 (.slice none 0 0)).set 2 (.int .i64 0)).set 3 (.int .i64 0)).set 4 (.int .i64 0)).set 5 (.int .i64 0)).set 6 (.int .i64 0)).set 7 (.slice none 0 0)).set 8 (.int .i64 0)).set 9 (.int .i64 0)).set 10 (.slice none 0 0)).rec hR VA (rec_no_text _ _ _ _ _ _ _ _ _ _ _ _ _ _ _ _ _)
            clear p0 d0 q0 g0 u0 p1 d1 q1 g1 u1 p2 d2 q2 g2 u2 p3 d3 q3 g3 u3 p4 d4 q4 g4 u4 p5 d5 q5 g5 u5 p6 d6 q6 g6 u6 p7 d7 q7 g7 u7 p8 d8 q8 g8 u8 p9 d9 q9 g9 u9 p10 d10 q10 g10 u10
            go_wp2_with fail
            refine bodyPost_ret (retG (k := a0) (v1 := .slice none 0 0) (d := ⟨[], 0, 0, 0, 0, 0⟩) (v2 := .slice none 0 0) (f := 0) (t := 0) (v3 := .slice none 0 0) rfl rfl rfl VE) rfl ?_
            exact ⟨⟨_, _, _, _, _, _, _, _, _, by rw [HQ.out]; rfl, hRE⟩, below_eleven BW (Nat.le_refl _) _ _ _ _ _ _ _ _ _ _ _⟩
end Go.Proofs.Ytopjiokbmpghjaa
