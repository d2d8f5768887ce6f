/-
  The document's own: a record's bytes (Put).
-/
import Derived.Test.YtopjiokbmpghjaaRcdA
namespace Go.Proofs.Ytopjiokbmpghjaa
open Go.RowKit Go.Shelf
set_option linter.unusedVariables false
set_option linter.unusedSimpArgs false

/-- a record as cells -/
abbrev recV (k : Int) (v1 : Value) (d : D6) (v2 : Value) (f t : Int) (v3 : Value) : Array Value := #[.int .i64 k, v1, .int .i64 d.rt, .int .i64 d.pl, .int .i64 d.tr, .int .i64 d.du, .int .i64 d.st, v2, .int .i64 f, .int .i64 t, v3]
abbrev aggRc (o1 : Option Addr) (n1 c1 : Nat) (o2 : Option Addr) (n2 c2 : Nat) (o3 : Option Addr) (n3 c3 : Nat) (r : Rc) : Value := .agg (recV r.k (.slice o1 n1 c1) r.d (.slice o2 n2 c2) r.f r.t (.slice o3 n3 c3))
theorem Stable.liesL (oa : Option Addr) (n cap : Nat) (l : List L2) : Stable (fun w => Ls w oa n cap l) := fun _ _ h hB => h.below hB (Nat.le_refl _)
theorem tx_len {l : List UInt8} {n : Nat} (h : l.length ≤ n) : (tx l).size ≤ n := by rw [tx_size]; exact h
theorem rowL_len {l : List L2} (h : rightB l = true) : (rowL l).length ≤ 60 := by
  obtain ⟨s1, s2⟩ := right_short h
  have := row_len l s1
  unfold rowL
  simp only [List.length_cons]
  omega
theorem six_len (t : Int) : (six t).length = 6 := rfl
theorem tx_two (a b : List UInt8) : tx (a ++ b) = tx a ++ tx b := (tx_append a b).symm

set_option maxRecDepth 100000 in
set_option maxHeartbeats 3200000 in
theorem refPut_gone (o1 : Option Addr) (n1 c1 : Nat) (d : D6) (o2 : Option Addr) (n2 c2 : Nat) (l : List L2) (f t : Int) (o3 : Option Addr) (n3 c3 : Nat) (w : World) (h : Ls w o2 n2 c2 l) (hr : rightB l = true) :
    Calls Try.prog 12 #[.agg (recV 2 (.slice o1 n1 c1) d (.slice o2 n2 c2) f t (.slice o3 n3 c3))] w fun e w' => e = .returned (.string (tx (2 :: rowL l))) ∧ Below w.heap.size w w' := by
  obtain ⟨s1, s2⟩ := right_short hr
  have hn : n2 ≤ 255 := by have := h.len; omega
  have HX : Hid (tx (2 :: rowL l) = tx [b1 2] ++ tx (rowL l)) := by show _ = _; rw [tx_append]; rfl
  have HO := fun w => one_any 2 (by omega) (by omega) w
  have HS := fun w (h : Ls w o2 n2 c2 l) => labels_any o2 n2 c2 l w h hn (fun x hx => by have := s1 x hx; omega)
  have z1 := tx_one_size (b1 2)
  have z2 := tx_len (rowL_len hr)
  generalize tx [b1 2] = p at *
  generalize tx (rowL l) = q at *
  have g1 : ∀ w, (Op.stringOp .add p q).run Try.prog w = .ok (.string (p ++ q)) w := fun w => run_string_add_sum _ _ _ (by omega)
  obtain ⟨ls, rt, pl, tr, du, st⟩ := d
  dsimp only [recV] at *
  have V0 := Vals.new w 29 #[.int .i64 2, .slice o1 n1 c1, .int .i64 rt, .int .i64 pl, .int .i64 tr, .int .i64 du, .int .i64 st, .slice o2 n2 c2, .int .i64 f, .int .i64 t, .slice o3 n3 c3]
  have B0 := below_alloc w (.cells #[.int .i64 2, .slice o1 n1 c1, .int .i64 rt, .int .i64 pl, .int .i64 tr, .int .i64 du, .int .i64 st, .slice o2 n2 c2, .int .i64 f, .int .i64 t, .slice o3 n3 c3] 29)
  have h0 := h.below B0 (Nat.le_refl _)
  clear h hr s1 s2
  go_enter Try.func12, Try.ntmps12
  go_wp2_with fail
  generalize w.alloc _ = W at *
  generalize hX : w.heap.size = X at *
  obtain ⟨I, hID⟩ : ∃ I : World → Prop, I = fun wx => Vals wx X 29 #[.int .i64 2, .slice o1 n1 c1, .int .i64 rt, .int .i64 pl, .int .i64 tr, .int .i64 du, .int .i64 st, .slice o2 n2 c2, .int .i64 f, .int .i64 t, .slice o3 n3 c3] ∧ Ls wx o2 n2 c2 l ∧ (X ≤ wx.heap.size ∧ Below X w wx) := ⟨_, rfl⟩
  have st' : Hid (Stable I) := by show Stable I; rw [hID]; exact (Stable.vals _ _ _).and ((Stable.liesL _ _ _ _).and (Stable.below _ _))
  have gI : Hid (∀ wx, I wx → Vals wx X 29 #[.int .i64 2, .slice o1 n1 c1, .int .i64 rt, .int .i64 pl, .int .i64 tr, .int .i64 du, .int .i64 st, .slice o2 n2 c2, .int .i64 f, .int .i64 t, .slice o3 n3 c3] ∧ Ls wx o2 n2 c2 l ∧ (X ≤ wx.heap.size ∧ Below X w wx)) := by intro wx h; rw [hID] at h; exact h
  have hI0 : I W := by rw [hID]; exact ⟨V0, h0, hX ▸ B0.size, B0⟩
  have hId := st'.out.drew hI0
  haveI ne : Nonempty (Cls I) := ⟨⟨_, hId⟩⟩
  clear hID hI0 V0 B0 h0
  have p7 : ∀ x : Cls I, x.w.cell? ⟨X, 7, none⟩ = some (.slice o2 n2 c2) := fun x => (gI.out _ x.is).1.cell 7
  have K1 : Hid (∀ z : Cls I, Calls Try.prog 31 #[.int .i64 2] z.w fun e w'' => e = .returned (.string p) ∧ ∃ y : Cls I, w'' = y.w) := fun z => class_of st'.out (HO z.w)
  have K2 : Hid (∀ z : Cls I, Calls Try.prog 32 #[.slice o2 n2 c2] z.w fun e w'' => e = .returned (.string q) ∧ ∃ y : Cls I, w'' = y.w) := fun z => class_of st'.out (HS z.w (gI.out _ z.is).2.1)
  clear HO HS
  refine wp_region_class I (by kernel_rfl) (by kernel_rfl) hId ?_
  iterate 1 (go_big_quiet_step (exact K1.out _))
  iterate 5 (go_big_quiet_step (exact K2.out _))
  refine wpQuiet_nil ?_
  rintro _ ⟨xx, rfl⟩
  clear p7 K1 K2 hId
  obtain ⟨_, _, _, B2⟩ := gI.out _ xx.is
  generalize xx.w = W2 at *
  clear ne gI st' xx I
  go_wp2_with fail
  go_ret
  exact ⟨retS HX.out.symm, by rw [hX]; exact B2⟩
set_option maxRecDepth 100000 in
set_option maxHeartbeats 6400000 in
theorem refPut_duty (o1 : Option Addr) (n1 c1 : Nat) (d : D6) (o2 : Option Addr) (n2 c2 : Nat) (f t : Int) (o3 : Option Addr) (n3 c3 : Nat) (w : World) (h : Ls w o1 n1 c1 d.ls) (hr : dutyB d = true) :
    Calls Try.prog 12 #[.agg (recV 1 (.slice o1 n1 c1) d (.slice o2 n2 c2) f t (.slice o3 n3 c3))] w fun e w' => e = .returned (.string (tx (1 :: b1 d.rt :: b1 d.pl :: b1 d.tr :: b1 d.st :: (six d.du ++ rowL d.ls)))) ∧ Below w.heap.size w w' := by
  obtain ⟨a1, a2, a3, a4, a5, a6, a7, a8, a9, a10⟩ := (dutyB_iff d).1 hr
  obtain ⟨t1, t2⟩ := (timeB_iff _).1 a8
  obtain ⟨s1, s2⟩ := right_short a1
  have hn : n1 ≤ 255 := by have := h.len; omega
  have z6 := tx_len (rowL_len a1)
  obtain ⟨l, rt, pl, tr, du, st⟩ := d
  dsimp only at *
  have HX : Hid (tx (1 :: b1 rt :: b1 pl :: b1 tr :: b1 st :: (six du ++ rowL l)) = tx [b1 1] ++ tx [b1 rt] ++ tx [b1 pl] ++ tx [b1 tr] ++ tx [b1 st] ++ tx (six du) ++ tx (rowL l)) := by
    show _ = _
    simp only [tx_append]
    rfl
  have HS := fun w (h : Ls w o1 n1 c1 l) => labels_any o1 n1 c1 l w h hn (fun x hx => by have := s1 x hx; omega)
  have H0 := fun w => one_any 1 (by omega) (by omega) w
  have H1 := fun w => one_any rt (by omega) (by omega) w
  have H2 := fun w => one_any pl (by omega) (by omega) w
  have H3 := fun w => one_any tr (by omega) (by omega) w
  have H4 := fun w => one_any st (by omega) (by omega) w
  have H5 := fun w => six_any du t1 t2 w
  have z0 := tx_one_size (b1 1)
  have z1 := tx_one_size (b1 rt)
  have z2 := tx_one_size (b1 pl)
  have z3 := tx_one_size (b1 tr)
  have z4 := tx_one_size (b1 st)
  have z5 : (tx (six du)).size = 6 := by rw [tx_size]; rfl
  generalize tx [b1 1] = p0 at *
  generalize tx [b1 rt] = p1 at *
  generalize tx [b1 pl] = p2 at *
  generalize tx [b1 tr] = p3 at *
  generalize tx [b1 st] = p4 at *
  generalize tx (six du) = p5 at *
  generalize tx (rowL l) = p6 at *
  have g1 : ∀ w, (Op.stringOp .add (p0) p1).run Try.prog w = .ok (.string (p0 ++ p1)) w := fun w => run_string_add_sum _ _ _ (by first | omega | (simp only [ByteArray.size_append]; omega))
  have g2 : ∀ w, (Op.stringOp .add (p0 ++ p1) p2).run Try.prog w = .ok (.string (p0 ++ p1 ++ p2)) w := fun w => run_string_add_sum _ _ _ (by first | omega | (simp only [ByteArray.size_append]; omega))
  have g3 : ∀ w, (Op.stringOp .add (p0 ++ p1 ++ p2) p3).run Try.prog w = .ok (.string (p0 ++ p1 ++ p2 ++ p3)) w := fun w => run_string_add_sum _ _ _ (by first | omega | (simp only [ByteArray.size_append]; omega))
  have g4 : ∀ w, (Op.stringOp .add (p0 ++ p1 ++ p2 ++ p3) p4).run Try.prog w = .ok (.string (p0 ++ p1 ++ p2 ++ p3 ++ p4)) w := fun w => run_string_add_sum _ _ _ (by first | omega | (simp only [ByteArray.size_append]; omega))
  have g5 : ∀ w, (Op.stringOp .add (p0 ++ p1 ++ p2 ++ p3 ++ p4) p5).run Try.prog w = .ok (.string (p0 ++ p1 ++ p2 ++ p3 ++ p4 ++ p5)) w := fun w => run_string_add_sum _ _ _ (by first | omega | (simp only [ByteArray.size_append]; omega))
  have g6 : ∀ w, (Op.stringOp .add (p0 ++ p1 ++ p2 ++ p3 ++ p4 ++ p5) p6).run Try.prog w = .ok (.string (p0 ++ p1 ++ p2 ++ p3 ++ p4 ++ p5 ++ p6)) w := fun w => run_string_add_sum _ _ _ (by first | omega | (simp only [ByteArray.size_append]; omega))
  have V0 := Vals.new w 29 #[.int .i64 1, .slice o1 n1 c1, .int .i64 rt, .int .i64 pl, .int .i64 tr, .int .i64 du, .int .i64 st, .slice o2 n2 c2, .int .i64 f, .int .i64 t, .slice o3 n3 c3]
  have B0 := below_alloc w (.cells #[.int .i64 1, .slice o1 n1 c1, .int .i64 rt, .int .i64 pl, .int .i64 tr, .int .i64 du, .int .i64 st, .slice o2 n2 c2, .int .i64 f, .int .i64 t, .slice o3 n3 c3] 29)
  have h0 := h.below B0 (Nat.le_refl _)
  clear h hr s1 s2 a1 a2 a3 a4 a5 a6 a7 a8 a9 a10
  go_enter Try.func12, Try.ntmps12
  have VD := Vals.new (w.alloc (.cells #[.int .i64 1, .slice o1 n1 c1, .int .i64 rt, .int .i64 pl, .int .i64 tr, .int .i64 du, .int .i64 st, .slice o2 n2 c2, .int .i64 f, .int .i64 t, .slice o3 n3 c3] 29)) 24 #[.slice o1 n1 c1, .int .i64 rt, .int .i64 pl, .int .i64 tr, .int .i64 du, .int .i64 st]
  have BD := B0.alloc B0.size (.cells #[.slice o1 n1 c1, .int .i64 rt, .int .i64 pl, .int .i64 tr, .int .i64 du, .int .i64 st] 24)
  have hD := h0.below (below_alloc _ (.cells #[.slice o1 n1 c1, .int .i64 rt, .int .i64 pl, .int .i64 tr, .int .i64 du, .int .i64 st] 24)) (Nat.le_refl _)
  rw [World.size_alloc] at VD
  clear V0 B0 h0
  go_wp2_with fail
  generalize (w.alloc _).alloc _ = W at *
  have hW := BD.size
  generalize hX : w.heap.size + 1 = X at *
  generalize hA : w.heap.size = A at *
  obtain ⟨I, hID⟩ : ∃ I : World → Prop, I = fun wx => Vals wx X 24 #[.slice o1 n1 c1, .int .i64 rt, .int .i64 pl, .int .i64 tr, .int .i64 du, .int .i64 st] ∧ Ls wx o1 n1 c1 l ∧ (A ≤ wx.heap.size ∧ Below A w wx) := ⟨_, rfl⟩
  have st' : Hid (Stable I) := by show Stable I; rw [hID]; exact (Stable.vals _ _ _).and ((Stable.liesL _ _ _ _).and (Stable.below _ _))
  have gI : Hid (∀ wx, I wx → Vals wx X 24 #[.slice o1 n1 c1, .int .i64 rt, .int .i64 pl, .int .i64 tr, .int .i64 du, .int .i64 st] ∧ Ls wx o1 n1 c1 l ∧ (A ≤ wx.heap.size ∧ Below A w wx)) := by intro wx h; rw [hID] at h; exact h
  have hI0 : I W := by rw [hID]; exact ⟨VD, hD, hW, BD⟩
  have hId := st'.out.drew hI0
  haveI ne : Nonempty (Cls I) := ⟨⟨_, hId⟩⟩
  clear hID hI0 VD BD hD hW
  have c0 : ∀ x : Cls I, x.w.cell? ⟨X, 0, none⟩ = some (.slice o1 n1 c1) := fun x => (gI.out _ x.is).1.cell 0
  have c1' : ∀ x : Cls I, x.w.cell? ⟨X, 1, none⟩ = some (.int .i64 rt) := fun x => (gI.out _ x.is).1.cell 1
  have c2' : ∀ x : Cls I, x.w.cell? ⟨X, 2, none⟩ = some (.int .i64 pl) := fun x => (gI.out _ x.is).1.cell 2
  have c3' : ∀ x : Cls I, x.w.cell? ⟨X, 3, none⟩ = some (.int .i64 tr) := fun x => (gI.out _ x.is).1.cell 3
  have c4 : ∀ x : Cls I, x.w.cell? ⟨X, 4, none⟩ = some (.int .i64 du) := fun x => (gI.out _ x.is).1.cell 4
  have c5 : ∀ x : Cls I, x.w.cell? ⟨X, 5, none⟩ = some (.int .i64 st) := fun x => (gI.out _ x.is).1.cell 5
  have K0 : Hid (∀ z : Cls I, Calls Try.prog 31 #[.int .i64 1] z.w fun e w'' => e = .returned (.string p0) ∧ ∃ y : Cls I, w'' = y.w) := fun z => class_of st'.out (H0 z.w)
  have K1 : Hid (∀ z : Cls I, Calls Try.prog 31 #[.int .i64 rt] z.w fun e w'' => e = .returned (.string p1) ∧ ∃ y : Cls I, w'' = y.w) := fun z => class_of st'.out (H1 z.w)
  have K2 : Hid (∀ z : Cls I, Calls Try.prog 31 #[.int .i64 pl] z.w fun e w'' => e = .returned (.string p2) ∧ ∃ y : Cls I, w'' = y.w) := fun z => class_of st'.out (H2 z.w)
  have K3 : Hid (∀ z : Cls I, Calls Try.prog 31 #[.int .i64 tr] z.w fun e w'' => e = .returned (.string p3) ∧ ∃ y : Cls I, w'' = y.w) := fun z => class_of st'.out (H3 z.w)
  have K4 : Hid (∀ z : Cls I, Calls Try.prog 31 #[.int .i64 st] z.w fun e w'' => e = .returned (.string p4) ∧ ∃ y : Cls I, w'' = y.w) := fun z => class_of st'.out (H4 z.w)
  have K5 : Hid (∀ z : Cls I, Calls Try.prog 33 #[.int .i64 du] z.w fun e w'' => e = .returned (.string p5) ∧ ∃ y : Cls I, w'' = y.w) := fun z => class_of st'.out (H5 z.w)
  have K6 : Hid (∀ z : Cls I, Calls Try.prog 32 #[.slice o1 n1 c1] z.w fun e w'' => e = .returned (.string p6) ∧ ∃ y : Cls I, w'' = y.w) := fun z => class_of st'.out (HS z.w (gI.out _ z.is).2.1)
  clear HS H0 H1 H2 H3 H4 H5
  refine wp_region_class I (by kernel_rfl) (by kernel_rfl) hId ?_
  iterate 1 (go_big_quiet_step (exact K0.out _))
  iterate 4 (go_big_quiet_step (exact K1.out _))
  iterate 4 (go_big_quiet_step (exact K2.out _))
  iterate 4 (go_big_quiet_step (exact K3.out _))
  iterate 4 (go_big_quiet_step (exact K4.out _))
  iterate 4 (go_big_quiet_step (exact K5.out _))
  iterate 5 (go_big_quiet_step (exact K6.out _))
  refine wpQuiet_nil ?_
  rintro _ ⟨xx, rfl⟩
  clear c0 c1' c2' c3' c4 c5 K0 K1 K2 K3 K4 K5 K6 hId
  obtain ⟨_, _, _, B2⟩ := gI.out _ xx.is
  generalize xx.w = W2 at *
  clear ne gI st' xx I
  go_wp2_with fail
  go_ret
  exact ⟨retS HX.out.symm, by rw [hA]; exact B2⟩
end Go.Proofs.Ytopjiokbmpghjaa
