/-
  The program's own: the label of a word.
-/
import Derived.Test.YthncfcjkpcjkiaaGreatDoorWirK
import Derived.Test.YthncfcjkpcjkiaaGreatDoorWirV
import Derived.Test.YthncfcjkpcjkiaaGreatDoorParA
namespace Go.Proofs.YthncfcjkpcjkiaaGreatDoor
open Go.RowKit Go.Shelf
set_option linter.unusedVariables false

set_option maxRecDepth 100000 in
set_option maxHeartbeats 1600000 in
theorem word_label (s : ByteArray) (w : World) (hs : s.size ≤ 1000) :
    Calls Tryz.prog 69 #[.string s] w fun e w' => LabOut e (bs s) ∧ Below w.heap.size w w' := by
  have V0 := Vals.new w 52 #[.string ⟨#[]⟩, .string ⟨#[]⟩]
  have B0 := below_alloc w (.cells #[.string ⟨#[]⟩, .string ⟨#[]⟩] 52)
  have HC := fun w => cut_any s w hs
  obtain ⟨A, hA⟩ : ∃ A, A = w.heap.size := ⟨_, rfl⟩
  go_enter Tryz.func69, Tryz.ntmps69
  go_upto_region 1 with fail
  rw [← hA] at V0
  rw [← hA]
  have hA1 : w.heap.size ≤ A := by omega
  clear hA
  generalize w.alloc (.cells #[.string ⟨#[]⟩, .string ⟨#[]⟩] 52) = w1 at *
  go_wp2_with fail
  refine (HC _).mono ?_
  rintro e w2 ⟨⟨⟨a, b⟩, hx, rfl⟩ | ⟨hx, rfl⟩, B2⟩
  · have HX := Lib.hid (label_one hx)
    have V2 := V0.keep B2 (Nat.le_refl _)
    have Bw2 := B0.trans (B2.mono B0.size)
    clear HC hx V0 B0 B2
    have hAG : A < w2.heap.size := V2.lt
    have V3 := V2.alloc (.cells #[.string a, .string b] 52)
    have VG := Vals.new w2 52 #[.string a, .string b]
    have B3 := Bw2.alloc Bw2.size (.cells #[.string a, .string b] 52)
    dsimp only
    go_upto_region 3 with fail
    generalize w2.alloc (.cells #[.string a, .string b] 52) = w3 at *
    obtain ⟨G, hG⟩ : ∃ G, G = w2.heap.size := ⟨_, rfl⟩
    rw [← hG] at VG hAG
    rw [← hG]
    clear hG V2 Bw2
    have x0 : w3.cell? ⟨G, 0, none⟩ = some (.string a) := VG.cell 0
    have x1 : w3.cell? ⟨G, 1, none⟩ = some (.string b) := VG.cell 1
    have HR := right_any _ 1 1 [(a, b)] _ (Ls.one w3 (a, b)) (by omega)
    have V4 := V3.alloc (.cells #[.string a, .string b] 52)
    have VG4 := VG.alloc (.cells #[.string a, .string b] 52)
    have B4 := B3.alloc B3.size (.cells #[.string a, .string b] 52)
    dsimp only at HR
    generalize rightB [(a, b)] = r at *
    have HR5 : ∀ w4, Below w3.heap.size w3 w4 → Vals w4 A 52 #[.string ⟨#[]⟩, .string ⟨#[]⟩] ∧ Vals w4 G 52 #[.string a, .string b] ∧ Below w.heap.size w w4 := fun w4 B => ⟨V3.keep B (Nat.le_refl _), VG.keep B (Nat.le_refl _), B3.trans (B.mono B3.size)⟩
    have B34 := below_alloc w3 (.cells #[.string a, .string b] 52)
    clear V4 VG4 B4 V3 VG B3
    cases r with
    | true =>
      have HW := Lib.hid (HX.out.1 rfl)
      clear HX
      go_wp2_with fail
      refine HR.mono ?_
      rintro e w5 ⟨rfl, B5⟩
      obtain ⟨V5, VG5, Bw5⟩ := HR5 w5 (B34.trans (B5.mono B34.size))
      have y0 : w5.cell? ⟨G, 0, none⟩ = some (.string a) := VG5.cell 0
      have y1 : w5.cell? ⟨G, 1, none⟩ = some (.string b) := VG5.cell 1
      have q0 : w5.cell? ⟨A, 0, none⟩ = some (.string ⟨#[]⟩) := V5.cell 0
      have q1 : w5.cell? ⟨A, 1, none⟩ = some (.string ⟨#[]⟩) := V5.cell 1
      have g0 := V5.free 0
      have g1 := V5.free 1
      have hV3 : Vals ((w5.setCell ⟨A, 0, none⟩ (.string a)).setCell ⟨A, 1, none⟩ (.string b)) A 52 #[.string a, .string b] := by
        have := (V5.set 0 (.string a)).set 1 (.string b)
        simpa using this
      have hB3 : Below w.heap.size w ((w5.setCell ⟨A, 0, none⟩ (.string a)).setCell ⟨A, 1, none⟩ (.string b)) := (Bw5.setCell (p := ⟨A, 0, none⟩) hA1 _).setCell (p := ⟨A, 1, none⟩) hA1 _
      clear HR HR5 B34 B5 V5 VG5 Bw5 x0 x1
      go_wp2_with fail
      refine bodyPost_ret (retL rfl rfl rfl hV3) rfl ?_
      exact ⟨.inl ⟨(a, b), HW.out, rfl⟩, hB3⟩
    | false =>
      have HW := Lib.hid (HX.out.2 rfl)
      clear HX
      go_wp2_with fail
      refine HR.mono ?_
      rintro e w5 ⟨rfl, B5⟩
      obtain ⟨V5, VG5, Bw5⟩ := HR5 w5 (B34.trans (B5.mono B34.size))
      have q0 : w5.cell? ⟨A, 0, none⟩ = some (.string ⟨#[]⟩) := V5.cell 0
      have q1 : w5.cell? ⟨A, 1, none⟩ = some (.string ⟨#[]⟩) := V5.cell 1
      have g0 := V5.free 0
      have g1 := V5.free 1
      have hV3 : Vals ((w5.setCell ⟨A, 0, none⟩ (.string ⟨#[]⟩)).setCell ⟨A, 1, none⟩ (.string ⟨#[]⟩)) A 52 #[.string ⟨#[]⟩, .string ⟨#[]⟩] := by
        have := (V5.set 0 (.string ⟨#[]⟩)).set 1 (.string ⟨#[]⟩)
        simpa using this
      have hB3 : Below w.heap.size w ((w5.setCell ⟨A, 0, none⟩ (.string ⟨#[]⟩)).setCell ⟨A, 1, none⟩ (.string ⟨#[]⟩)) := (Bw5.setCell (p := ⟨A, 0, none⟩) hA1 _).setCell (p := ⟨A, 1, none⟩) hA1 _
      clear HR HR5 B34 B5 V5 VG5 Bw5 x0 x1
      go_wp2_with fail
      refine bodyPost_ret (retL rfl rfl rfl hV3) rfl ?_
      exact ⟨.inr ⟨HW.out, (⟨#[]⟩, ⟨#[]⟩), rfl⟩, hB3⟩
  · have HW := Lib.hid (label_none hx)
    have V2 := V0.keep B2 (Nat.le_refl _)
    have Bw2 := B0.trans (B2.mono B0.size)
    clear HC hx V0 B0 B2
    have V3 := V2.alloc (.cells #[.string s, .string ⟨#[]⟩] 52)
    have B3 := Bw2.alloc Bw2.size (.cells #[.string s, .string ⟨#[]⟩] 52)
    go_upto_region 3 with fail
    generalize w2.alloc (.cells #[.string s, .string ⟨#[]⟩] 52) = w3 at *
    clear V2 Bw2
    have q0 : w3.cell? ⟨A, 0, none⟩ = some (.string ⟨#[]⟩) := V3.cell 0
    have q1 : w3.cell? ⟨A, 1, none⟩ = some (.string ⟨#[]⟩) := V3.cell 1
    have g0 := V3.free 0
    have g1 := V3.free 1
    have hV3 : Vals ((w3.setCell ⟨A, 0, none⟩ (.string ⟨#[]⟩)).setCell ⟨A, 1, none⟩ (.string ⟨#[]⟩)) A 52 #[.string ⟨#[]⟩, .string ⟨#[]⟩] := by
      have := (V3.set 0 (.string ⟨#[]⟩)).set 1 (.string ⟨#[]⟩)
      simpa using this
    have hB3 : Below w.heap.size w ((w3.setCell ⟨A, 0, none⟩ (.string ⟨#[]⟩)).setCell ⟨A, 1, none⟩ (.string ⟨#[]⟩)) := (B3.setCell (p := ⟨A, 0, none⟩) hA1 _).setCell (p := ⟨A, 1, none⟩) hA1 _
    clear V3 B3
    go_wp2_with fail
    refine bodyPost_ret (retL rfl rfl rfl hV3) rfl ?_
    exact ⟨.inr ⟨HW.out, (⟨#[]⟩, ⟨#[]⟩), rfl⟩, hB3⟩
end Go.Proofs.YthncfcjkpcjkiaaGreatDoor
