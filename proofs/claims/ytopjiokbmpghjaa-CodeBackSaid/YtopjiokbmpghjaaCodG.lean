/-
  The program's own: the bytes of a record.
-/
import Derived.Test.YtopjiokbmpghjaaCodF
namespace Go.Proofs.Ytopjiokbmpghjaa
open Go.RowKit Go.Shelf
set_option linter.unusedVariables false
set_option linter.unusedSimpArgs false

def putV (r : Rc) : Value := .tuple #[.string (if recR r then tx (putL r) else ByteArray.empty), .int .i64 (if recR r then 0 else 1)]
theorem putV_no {r : Rc} (h : recR r = false) : putV r = .tuple #[.string ByteArray.empty, .int .i64 1] := by unfold putV; rw [h]; rfl
theorem putV_yes {r : Rc} (h : recR r = true) : putV r = .tuple #[.string (tx (putL r)), .int .i64 0] := by unfold putV; rw [h]; rfl
theorem retSV {a b : ByteArray} {v : Value} (h : a = b) : Ending.returned (.tuple #[.string a, v]) = .returned (.tuple #[.string b, v]) := by rw [h]
set_option maxRecDepth 100000 in
set_option maxHeartbeats 6400000 in
theorem cput_any (o1 : Option Addr) (n1 c1 : Nat) (o2 : Option Addr) (n2 c2 : Nat) (o3 : Option Addr) (n3 c3 : Nat) (r : Rc) (w : World) (h : RAt w o1 n1 c1 o2 n2 c2 o3 n3 c3 r) :
    Calls Try.prog 8 #[aggRc o1 n1 c1 o2 n2 c2 o3 n3 c3 r] w fun e w' => e = .returned (putV r) ∧ Below w.heap.size w w' := by
  have HR := fun w h => cright_any o1 n1 c1 o2 n2 c2 o3 n3 c3 r w h
  cases hr : recR r with
  | false =>
    rw [putV_no hr]
    rw [hr] at HR
    obtain ⟨k, ⟨l, rt, pl, tr, du, st⟩, m, f, t, q⟩ := r
    dsimp only [aggRc, recV] at *
    have B0 := below_alloc w (.cells #[.int .i64 k, .slice o1 n1 c1, .int .i64 rt, .int .i64 pl, .int .i64 tr, .int .i64 du, .int .i64 st, .slice o2 n2 c2, .int .i64 f, .int .i64 t, .slice o3 n3 c3] 29)
    have HR1 := HR _ (h.below B0 (Nat.le_refl _))
    clear HR hr h
    go_enter Try.func8, Try.ntmps8
    go_wp2_with fail
    refine HR1.mono ?_
    rintro e w2 ⟨rfl, B2⟩
    go_wp2_with fail
    go_ret2
    exact ⟨rfl, B0.trans (B2.mono B0.size)⟩
  | true =>
    rw [putV_yes hr]
    rw [hr] at HR
    rcases recR_cases hr with ⟨d, hd, rfl⟩ | ⟨m, hl, rfl⟩ | ⟨f, t, q, hh, rfl⟩
    · have HX : Hid (tx (putL ⟨1, d, [], 0, 0, []⟩) = tx [b1 1] ++ tx (b1 d.rt :: b1 d.pl :: b1 d.tr :: b1 d.st :: (six d.du ++ rowL d.ls))) := by show _ = _; rw [tx_append]; rfl
      have z1 := tx_one_size (b1 1)
      have z2 : (tx (b1 d.rt :: b1 d.pl :: b1 d.tr :: b1 d.st :: (six d.du ++ rowL d.ls))).size ≤ 100 := by
        have := rowL_len ((dutyB_iff d).1 hd).1
        rw [tx_size]
        simp only [List.length_cons, List.length_append, six_len]
        omega
      have HO := fun w => numberAs_one 1 (by omega) (by omega) w
      have HD := fun (w : World) (h : RAt w o1 n1 c1 o2 n2 c2 o3 n3 c3 ⟨1, d, [], 0, 0, []⟩) => dutyAs_any o1 n1 c1 d w h.ls hd
      generalize tx (b1 d.rt :: b1 d.pl :: b1 d.tr :: b1 d.st :: (six d.du ++ rowL d.ls)) = y at *
      generalize tx [b1 1] = x at *
      generalize tx (putL ⟨1, d, [], 0, 0, []⟩) = z at *
      obtain ⟨l, rt, pl, tr, du, st⟩ := d
      dsimp only [aggRc, recV, aggD, dV] at *
      have V0 := Vals.new w 29 #[.int .i64 1, .slice o1 n1 c1, .int .i64 rt, .int .i64 pl, .int .i64 tr, .int .i64 du, .int .i64 st, .slice o2 n2 c2, .int .i64 0, .int .i64 0, .slice o3 n3 c3]
      have B0 := below_alloc w (.cells #[.int .i64 1, .slice o1 n1 c1, .int .i64 rt, .int .i64 pl, .int .i64 tr, .int .i64 du, .int .i64 st, .slice o2 n2 c2, .int .i64 0, .int .i64 0, .slice o3 n3 c3] 29)
      have h0 := h.below B0 (Nat.le_refl _)
      have HR1 := HR _ h0
      clear HR hr h hd
      go_enter Try.func8, Try.ntmps8
      go_wp2_with fail
      refine HR1.mono ?_
      rintro e w2 ⟨rfl, B2⟩
      have V2 := V0.keep B2 (Nat.le_refl _)
      have B3 := B0.trans (B2.mono B0.size)
      have h2 := h0.below B2 (Nat.le_refl _)
      clear V0 B0 HR1 h0 B2
      have p0 : w2.cell? ⟨w.heap.size, 0, none⟩ = some (.int .i64 1) := V2.cell 0
      go_wp2_with fail
      refine (HO _).mono ?_
      rintro e w4 ⟨rfl, B4⟩
      have V4 := V2.keep B4 (Nat.le_refl _)
      have B5 := B3.trans (B4.mono B3.size)
      have h4 := h2.below B4 (Nat.le_refl _)
      have HD1 := HD _ h4
      clear V2 B3 HO h2 B4 p0 HD h4
      have q0 : w4.cell? ⟨w.heap.size, 0, none⟩ = some (.int .i64 1) := V4.cell 0
      have q1 : w4.cell? ⟨w.heap.size, 1, none⟩ = some (.slice o1 n1 c1) := V4.cell 1
      have q2 : w4.cell? ⟨w.heap.size, 2, none⟩ = some (.int .i64 rt) := V4.cell 2
      have q3 : w4.cell? ⟨w.heap.size, 3, none⟩ = some (.int .i64 pl) := V4.cell 3
      have q4 : w4.cell? ⟨w.heap.size, 4, none⟩ = some (.int .i64 tr) := V4.cell 4
      have q5 : w4.cell? ⟨w.heap.size, 5, none⟩ = some (.int .i64 du) := V4.cell 5
      have q6 : w4.cell? ⟨w.heap.size, 6, none⟩ = some (.int .i64 st) := V4.cell 6
      have g1 : ∀ w, (Op.stringOp .add x y).run Try.prog w = .ok (.string (x ++ y)) w := fun w => run_string_add_sum _ _ _ (by omega)
      go_wp2_with fail
      refine HD1.mono ?_
      rintro e w6 ⟨rfl, B6⟩
      go_wp2_with fail
      go_ret2
      exact ⟨retSV HX.out.symm, B5.trans (B6.mono B5.size)⟩
    · have HX : Hid (tx (putL ⟨2, zD, m, 0, 0, []⟩) = tx [b1 2] ++ tx (rowL m)) := by show _ = _; rw [tx_append]; rfl
      have z1 := tx_one_size (b1 2)
      have z2 := tx_len (rowL_len hl)
      obtain ⟨s1, s2⟩ := right_short hl
      have hn : n2 ≤ 255 := by have := h.l.len; dsimp only at this; omega
      have HO := fun w => numberAs_one 2 (by omega) (by omega) w
      have HD := fun (w : World) (h : RAt w o1 n1 c1 o2 n2 c2 o3 n3 c3 ⟨2, zD, m, 0, 0, []⟩) => labelsAs_any o2 n2 c2 m w h.l hn (fun x hx => by have := s1 x hx; omega)
      generalize tx (rowL m) = y at *
      generalize tx [b1 2] = x at *
      generalize tx (putL ⟨2, zD, m, 0, 0, []⟩) = z at *
      dsimp only [aggRc, recV] at *
      have V0 := Vals.new w 29 #[.int .i64 2, .slice o1 n1 c1, .int .i64 0, .int .i64 0, .int .i64 0, .int .i64 0, .int .i64 0, .slice o2 n2 c2, .int .i64 0, .int .i64 0, .slice o3 n3 c3]
      have B0 := below_alloc w (.cells #[.int .i64 2, .slice o1 n1 c1, .int .i64 0, .int .i64 0, .int .i64 0, .int .i64 0, .int .i64 0, .slice o2 n2 c2, .int .i64 0, .int .i64 0, .slice o3 n3 c3] 29)
      have h0 := h.below B0 (Nat.le_refl _)
      have HR1 := HR _ h0
      clear HR hr h hl s1 s2
      go_enter Try.func8, Try.ntmps8
      go_wp2_with fail
      refine HR1.mono ?_
      rintro e w2 ⟨rfl, B2⟩
      have V2 := V0.keep B2 (Nat.le_refl _)
      have B3 := B0.trans (B2.mono B0.size)
      have h2 := h0.below B2 (Nat.le_refl _)
      clear V0 B0 HR1 h0 B2
      have p0 : w2.cell? ⟨w.heap.size, 0, none⟩ = some (.int .i64 2) := V2.cell 0
      go_wp2_with fail
      refine (HO _).mono ?_
      rintro e w4 ⟨rfl, B4⟩
      have V4 := V2.keep B4 (Nat.le_refl _)
      have B5 := B3.trans (B4.mono B3.size)
      have h4 := h2.below B4 (Nat.le_refl _)
      have HD1 := HD _ h4
      clear V2 B3 HO h2 B4 p0 HD h4
      have q0 : w4.cell? ⟨w.heap.size, 0, none⟩ = some (.int .i64 2) := V4.cell 0
      have q7 : w4.cell? ⟨w.heap.size, 7, none⟩ = some (.slice o2 n2 c2) := V4.cell 7
      have g1 : ∀ w, (Op.stringOp .add x y).run Try.prog w = .ok (.string (x ++ y)) w := fun w => run_string_add_sum _ _ _ (by omega)
      go_wp2_with fail
      refine HD1.mono ?_
      rintro e w6 ⟨rfl, B6⟩
      go_wp2_with fail
      go_ret2
      exact ⟨retSV HX.out.symm, B5.trans (B6.mono B5.size)⟩
    · have HX : Hid (tx (putL ⟨3, zD, [], f, t, q⟩) = tx [b1 3] ++ tx (six f ++ (six t ++ askL q))) := by show _ = _; rw [tx_append]; rfl
      have z1 := tx_one_size (b1 3)
      have z2 : (tx (six f ++ (six t ++ askL q))).size ≤ 100 := by
        obtain ⟨s1, s2⟩ := mats_short ((hushR_iff f t q).1 hh).2.2.2.2
        have := ask_len q s1
        rw [tx_size]
        unfold askL
        simp only [List.length_cons, List.length_append, six_len]
        omega
      have HO := fun w => numberAs_one 3 (by omega) (by omega) w
      have HD := fun (w : World) (h : RAt w o1 n1 c1 o2 n2 c2 o3 n3 c3 ⟨3, zD, [], f, t, q⟩) => hushAs_any f t o3 n3 c3 q w h.ms hh
      generalize tx (six f ++ (six t ++ askL q)) = y at *
      generalize tx [b1 3] = x at *
      generalize tx (putL ⟨3, zD, [], f, t, q⟩) = z at *
      dsimp only [aggRc, recV] at *
      have V0 := Vals.new w 29 #[.int .i64 3, .slice o1 n1 c1, .int .i64 0, .int .i64 0, .int .i64 0, .int .i64 0, .int .i64 0, .slice o2 n2 c2, .int .i64 f, .int .i64 t, .slice o3 n3 c3]
      have B0 := below_alloc w (.cells #[.int .i64 3, .slice o1 n1 c1, .int .i64 0, .int .i64 0, .int .i64 0, .int .i64 0, .int .i64 0, .slice o2 n2 c2, .int .i64 f, .int .i64 t, .slice o3 n3 c3] 29)
      have h0 := h.below B0 (Nat.le_refl _)
      have HR1 := HR _ h0
      clear HR hr h hh
      go_enter Try.func8, Try.ntmps8
      go_wp2_with fail
      refine HR1.mono ?_
      rintro e w2 ⟨rfl, B2⟩
      have V2 := V0.keep B2 (Nat.le_refl _)
      have B3 := B0.trans (B2.mono B0.size)
      have h2 := h0.below B2 (Nat.le_refl _)
      clear V0 B0 HR1 h0 B2
      have p0 : w2.cell? ⟨w.heap.size, 0, none⟩ = some (.int .i64 3) := V2.cell 0
      go_wp2_with fail
      refine (HO _).mono ?_
      rintro e w4 ⟨rfl, B4⟩
      have V4 := V2.keep B4 (Nat.le_refl _)
      have B5 := B3.trans (B4.mono B3.size)
      have h4 := h2.below B4 (Nat.le_refl _)
      have HD1 := HD _ h4
      clear V2 B3 HO h2 B4 p0 HD h4
      have q0 : w4.cell? ⟨w.heap.size, 0, none⟩ = some (.int .i64 3) := V4.cell 0
      have q8 : w4.cell? ⟨w.heap.size, 8, none⟩ = some (.int .i64 f) := V4.cell 8
      have q9 : w4.cell? ⟨w.heap.size, 9, none⟩ = some (.int .i64 t) := V4.cell 9
      have q10 : w4.cell? ⟨w.heap.size, 10, none⟩ = some (.slice o3 n3 c3) := V4.cell 10
      have g1 : ∀ w, (Op.stringOp .add x y).run Try.prog w = .ok (.string (x ++ y)) w := fun w => run_string_add_sum _ _ _ (by omega)
      go_wp2_with fail
      refine HD1.mono ?_
      rintro e w6 ⟨rfl, B6⟩
      go_wp2_with fail
      go_ret2
      exact ⟨retSV HX.out.symm, B5.trans (B6.mono B5.size)⟩
end Go.Proofs.Ytopjiokbmpghjaa
