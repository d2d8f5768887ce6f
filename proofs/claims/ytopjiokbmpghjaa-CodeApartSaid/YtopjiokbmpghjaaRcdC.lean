/-
  The document's own: the bytes of a hush's record (Put).
-/
import Derived.Test.YtopjiokbmpghjaaRcdB
namespace Go.Proofs.Ytopjiokbmpghjaa
open Go.RowKit Go.Shelf
set_option linter.unusedVariables false
set_option linter.unusedSimpArgs false

theorem askN_next (l : List M3) (k : Nat) (hk : k < l.length) (hd : List UInt8) : tx (hd ++ (l.take (k + 1)).flatMap matL) = tx (hd ++ (l.take k).flatMap matL) ++ tx [b1 (l.getD k zM).1] ++ tx (txtL (l.getD k zM).2.1) ++ tx (txtL (l.getD k zM).2.2) := by
  rw [takeM_next l k hk, List.flatMap_append, tx_append, tx_append, tx_append]
  simp [matL]
set_option maxRecDepth 100000 in
set_option maxHeartbeats 6400000 in
theorem refPut_hush (o1 : Option Addr) (n1 c1 : Nat) (d : D6) (o2 : Option Addr) (n2 c2 : Nat) (f t : Int) (o3 : Option Addr) (n3 c3 : Nat) (l : List M3) (w : World) (h : Ms w o3 n3 c3 l) (hr : hushR f t l = true) :
    Calls Try.prog 12 #[.agg (recV 3 (.slice o1 n1 c1) d (.slice o2 n2 c2) f t (.slice o3 n3 c3))] w fun e w' => e = .returned (.string (tx (3 :: (six f ++ (six t ++ askL l))))) ∧ Below w.heap.size w w' := by
  obtain ⟨a1, a2, a3, a4, a5⟩ := (hushR_iff f t l).1 hr
  obtain ⟨f1, f2⟩ := (timeB_iff _).1 a1
  obtain ⟨t1, t2⟩ := (timeB_iff _).1 a2
  obtain ⟨s1, s2⟩ := mats_short a5
  have hl := h.len
  have hrm := h.room
  have hn : n3 ≤ 4 := by omega
  have HX : Hid (tx (3 :: (six f ++ (six t ++ askL l))) = tx ((3 :: (six f ++ (six t ++ [b1 (n3 : Int)]))) ++ (l.take n3).flatMap matL)) := by
    show _ = _
    rw [List.take_of_length_le (by omega), ← hl]
    unfold askL
    simp [b1]
  have H3 : Hid (tx (3 :: (six f ++ (six t ++ [b1 (n3 : Int)]))) = tx [b1 3] ++ tx (six f) ++ tx (six t) ++ tx [b1 (n3 : Int)]) := by
    show _ = _
    simp only [tx_append]
    rfl
  have HO := fun w => one_any 3 (by omega) (by omega) w
  have HF := fun w => six_any f f1 f2 w
  have HT := fun w => six_any t t1 t2 w
  have HN := fun w => one_any (n3 : Int) (by omega) (by omega) w
  have z0 := tx_one_size (b1 3)
  have z1 : (tx (six f)).size = 6 := by rw [tx_size]; rfl
  have z2 : (tx (six t)).size = 6 := by rw [tx_size]; rfl
  have z3 := tx_one_size (b1 (n3 : Int))
  rw [HX.out]
  clear HX
  generalize 3 :: (six f ++ (six t ++ [b1 (n3 : Int)])) = hd at *
  have H0 : Hid (tx hd = tx (hd ++ (l.take 0).flatMap matL)) := by show _ = _; simp
  rw [H3.out] at H0
  clear H3
  generalize tx [b1 3] = p0 at *
  generalize tx (six f) = p1 at *
  generalize tx (six t) = p2 at *
  generalize tx [b1 (n3 : Int)] = p3 at *
  have g1 : ∀ w, (Op.stringOp .add p0 p1).run Try.prog w = .ok (.string (p0 ++ p1)) w := fun w => run_string_add_sum _ _ _ (by omega)
  have g2 : ∀ w, (Op.stringOp .add (p0 ++ p1) p2).run Try.prog w = .ok (.string (p0 ++ p1 ++ p2)) w := fun w => run_string_add_sum _ _ _ (by simp only [ByteArray.size_append]; omega)
  have g3 : ∀ w, (Op.stringOp .add (p0 ++ p1 ++ p2) p3).run Try.prog w = .ok (.string (p0 ++ p1 ++ p2 ++ p3)) w := fun w => run_string_add_sum _ _ _ (by simp only [ByteArray.size_append]; omega)
  have hzs : (p0 ++ p1 ++ p2 ++ p3).size ≤ 14 := by simp only [ByteArray.size_append]; omega
  obtain ⟨ls, rt, pl, tr, du, st⟩ := d
  dsimp only [recV] at *
  have V0 := Vals.new w 29 #[.int .i64 3, .slice o1 n1 c1, .int .i64 rt, .int .i64 pl, .int .i64 tr, .int .i64 du, .int .i64 st, .slice o2 n2 c2, .int .i64 f, .int .i64 t, .slice o3 n3 c3]
  have B0 := below_alloc w (.cells #[.int .i64 3, .slice o1 n1 c1, .int .i64 rt, .int .i64 pl, .int .i64 tr, .int .i64 du, .int .i64 st, .slice o2 n2 c2, .int .i64 f, .int .i64 t, .slice o3 n3 c3] 29)
  have h0 := h.below B0 (Nat.le_refl _)
  clear h hr a1 a2 a3 a4 a5 f1 f2 t1 t2
  go_enter Try.func12, Try.ntmps12
  go_wp2_with fail
  generalize w.alloc _ = W at *
  generalize hX : w.heap.size = X at *
  obtain ⟨I, hID⟩ : ∃ I : World → Prop, I = fun wx => Vals wx X 29 #[.int .i64 3, .slice o1 n1 c1, .int .i64 rt, .int .i64 pl, .int .i64 tr, .int .i64 du, .int .i64 st, .slice o2 n2 c2, .int .i64 f, .int .i64 t, .slice o3 n3 c3] ∧ Ms wx o3 n3 c3 l ∧ (X ≤ wx.heap.size ∧ Below X w wx) := ⟨_, rfl⟩
  have st' : Hid (Stable I) := by show Stable I; rw [hID]; exact (Stable.vals _ _ _).and ((show Stable (fun w => Ms w o3 n3 c3 l) from fun _ _ h hB => h.below hB (Nat.le_refl _)).and (Stable.below _ _))
  have gI : Hid (∀ wx, I wx → Vals wx X 29 #[.int .i64 3, .slice o1 n1 c1, .int .i64 rt, .int .i64 pl, .int .i64 tr, .int .i64 du, .int .i64 st, .slice o2 n2 c2, .int .i64 f, .int .i64 t, .slice o3 n3 c3] ∧ Ms wx o3 n3 c3 l ∧ (X ≤ wx.heap.size ∧ Below X w wx)) := by intro wx h; rw [hID] at h; exact h
  have hI0 : I W := by rw [hID]; exact ⟨V0, h0, hX ▸ B0.size, B0⟩
  have hId := st'.out.drew hI0
  haveI ne : Nonempty (Cls I) := ⟨⟨_, hId⟩⟩
  clear hID hI0 V0 B0 h0
  have c8 : ∀ x : Cls I, x.w.cell? ⟨X, 8, none⟩ = some (.int .i64 f) := fun x => (gI.out _ x.is).1.cell 8
  have c9 : ∀ x : Cls I, x.w.cell? ⟨X, 9, none⟩ = some (.int .i64 t) := fun x => (gI.out _ x.is).1.cell 9
  have c10 : ∀ x : Cls I, x.w.cell? ⟨X, 10, none⟩ = some (.slice o3 n3 c3) := fun x => (gI.out _ x.is).1.cell 10
  have K0 : Hid (∀ z : Cls I, Calls Try.prog 31 #[.int .i64 3] z.w fun e w'' => e = .returned (.string p0) ∧ ∃ y : Cls I, w'' = y.w) := fun z => class_of st'.out (HO z.w)
  have K1 : Hid (∀ z : Cls I, Calls Try.prog 33 #[.int .i64 f] z.w fun e w'' => e = .returned (.string p1) ∧ ∃ y : Cls I, w'' = y.w) := fun z => class_of st'.out (HF z.w)
  have K2 : Hid (∀ z : Cls I, Calls Try.prog 33 #[.int .i64 t] z.w fun e w'' => e = .returned (.string p2) ∧ ∃ y : Cls I, w'' = y.w) := fun z => class_of st'.out (HT z.w)
  have K3 : Hid (∀ z : Cls I, Calls Try.prog 31 #[.int .i64 (n3 : Int)] z.w fun e w'' => e = .returned (.string p3) ∧ ∃ y : Cls I, w'' = y.w) := fun z => class_of st'.out (HN z.w)
  clear HO HF HT HN
  refine wp_region_class I (by kernel_rfl) (by kernel_rfl) hId ?_
  iterate 1 (go_big_quiet_step (exact K0.out _))
  iterate 5 (go_big_quiet_step (exact K1.out _))
  iterate 5 (go_big_quiet_step (exact K2.out _))
  iterate 7 (go_big_quiet_step (exact K3.out _))
  refine wpQuiet_nil ?_
  rintro _ ⟨xx, rfl⟩
  clear c8 c9 c10 K0 K1 K2 K3 hId
  obtain ⟨V2, hM, hW2, B2⟩ := gI.out _ xx.is
  generalize xx.w = W2 at *
  clear ne gI st' xx I g1 g2 g3 z0 z1 z2 z3
  have c10 : W2.cell? ⟨X, 10, none⟩ = some (.slice o3 n3 c3) := V2.cell 10
  generalize p0 ++ p1 ++ p2 ++ p3 = z0 at *
  clear V2
  go_wp2_with fail
  go_loopw [4, 6, 66] (fun s4 _ s66 wr => ∃ (k : Nat) (z : ByteArray), k ≤ n3 ∧ s66 = .int .i64 k ∧ s4 = .string z ∧ Hid (z = tx (hd ++ (l.take k).flatMap matL)) ∧ z.size ≤ 14 + 600 * k ∧ X ≤ wr.heap.size ∧ Below X w wr ∧ Below W2.heap.size W2 wr) (fun _ _ s66 _ => n3 - (intOf s66).toNat)
  case atStart => exact ⟨0, _, Nat.zero_le _, rfl, rfl, H0, by omega, hW2, B2, Below.refl _ _⟩
  case round =>
    obtain ⟨k, z, hk, rfl, rfl, HA, hzs, hWr, hB, hW2r⟩ := hrel
    have hM2 := fun (wx : World) (hx : Below W2.heap.size W2 wx) => hM.below hx (Nat.le_refl _)
    by_cases hlt : k < n3
    · obtain ⟨g, o, rfl, d0, d1, d2⟩ := (hM2 wr hW2r).cell k hlt
      have HY := Lib.hid (askN_next l k (by omega) hd)
      rw [← HA.out] at HY
      obtain ⟨y0, y1, y2, y3⟩ := s1 (l.getD k zM) (by rw [getD_M l k (by omega)]; exact List.getElem_mem _)
      generalize l.getD k zM = x at *
      obtain ⟨q, s, u⟩ := x
      dsimp only at d0 d1 d2 y0 y1 y2 y3 HY
      have HQ := fun w => one_any q y0 (by omega) w
      have HS := fun w => text_any s (by omega) w
      have HU := fun w => text_any u (by omega) w
      have za := tx_one_size (b1 q)
      have zb : (tx (txtL s)).size ≤ 9 := by rw [tx_size, txtL_len]; omega
      have zc : (tx (txtL u)).size ≤ 9 := by rw [tx_size, txtL_len]; omega
      generalize tx [b1 q] = a at *
      generalize tx (txtL s) = b at *
      generalize tx (txtL u) = c at *
      have g1 : ∀ w, (Op.stringOp .add z a).run Try.prog w = .ok (.string (z ++ a)) w := fun w => run_string_add_sum _ _ _ (by omega)
      have g2 : ∀ w, (Op.stringOp .add (z ++ a) b).run Try.prog w = .ok (.string (z ++ a ++ b)) w := fun w => run_string_add_sum _ _ _ (by simp only [ByteArray.size_append]; omega)
      have g3 : ∀ w, (Op.stringOp .add (z ++ a ++ b) c).run Try.prog w = .ok (.string (z ++ a ++ b ++ c)) w := fun w => run_string_add_sum _ _ _ (by simp only [ByteArray.size_append]; omega)
      have hzz : (z ++ a ++ b ++ c).size ≤ 14 + 600 * (k + 1) := by simp only [ByteArray.size_append]; omega
      have V0 := Vals.new wr 45 #[.int .i64 q, .string s, .string u]
      have B0 := hB.alloc hWr (.cells #[.int .i64 q, .string s, .string u] 45)
      have B3 := hW2r.alloc hW2r.size (.cells #[.int .i64 q, .string s, .string u] 45)
      clear HA hl s1 hM hM2 y0 y1 y2 y3
      go_wp2_with fail
      generalize hW : wr.alloc (.cells #[.int .i64 q, .string s, .string u] 45) = W3 at *
      have hW3 : X ≤ W3.heap.size := by rw [← hW, World.size_alloc]; omega
      generalize wr.heap.size = Y at *
      obtain ⟨I, hID⟩ : ∃ I : World → Prop, I = fun wx => Vals wx Y 45 #[.int .i64 q, .string s, .string u] ∧ ((X ≤ wx.heap.size ∧ Below X w wx) ∧ (W2.heap.size ≤ wx.heap.size ∧ Below W2.heap.size W2 wx)) := ⟨_, rfl⟩
      have st' : Hid (Stable I) := by show Stable I; rw [hID]; exact (Stable.vals _ _ _).and ((Stable.below _ _).and (Stable.below _ _))
      have gI : Hid (∀ wx, I wx → Vals wx Y 45 #[.int .i64 q, .string s, .string u] ∧ ((X ≤ wx.heap.size ∧ Below X w wx) ∧ (W2.heap.size ≤ wx.heap.size ∧ Below W2.heap.size W2 wx))) := by intro wx h; rw [hID] at h; exact h
      have hI0 : I W3 := by rw [hID]; exact ⟨V0, ⟨hW3, B0⟩, B3.size, B3⟩
      have hId := st'.out.drew hI0
      haveI ne : Nonempty (Cls I) := ⟨⟨_, hId⟩⟩
      clear hID hI0 V0 B0 B3 d0 d1 d2 hW hW3
      have p0 : ∀ x : Cls I, x.w.cell? ⟨Y, 0, none⟩ = some (.int .i64 q) := fun x => (gI.out _ x.is).1.cell 0
      have p1 : ∀ x : Cls I, x.w.cell? ⟨Y, 1, none⟩ = some (.string s) := fun x => (gI.out _ x.is).1.cell 1
      have p2 : ∀ x : Cls I, x.w.cell? ⟨Y, 2, none⟩ = some (.string u) := fun x => (gI.out _ x.is).1.cell 2
      have K0 : Hid (∀ z : Cls I, Calls Try.prog 31 #[.int .i64 q] z.w fun e w'' => e = .returned (.string a) ∧ ∃ y : Cls I, w'' = y.w) := fun z => class_of st'.out (HQ z.w)
      have K1 : Hid (∀ z : Cls I, Calls Try.prog 34 #[.string s] z.w fun e w'' => e = .returned (.string b) ∧ ∃ y : Cls I, w'' = y.w) := fun z => class_of st'.out (HS z.w)
      have K2 : Hid (∀ z : Cls I, Calls Try.prog 34 #[.string u] z.w fun e w'' => e = .returned (.string c) ∧ ∃ y : Cls I, w'' = y.w) := fun z => class_of st'.out (HU z.w)
      clear HQ HS HU
      refine wp_region_class I (by kernel_rfl) (by kernel_rfl) hId ?_
      iterate 5 (go_big_quiet_step (exact K0.out _))
      iterate 4 (go_big_quiet_step (exact K1.out _))
      iterate 5 (go_big_quiet_step (exact K2.out _))
      refine wpQuiet_nil ?_
      rintro _ ⟨xx, rfl⟩
      clear p0 p1 p2 K0 K1 K2 hId
      obtain ⟨_, ⟨hW5, B5⟩, _, B6⟩ := gI.out _ xx.is
      generalize xx.w = W5 at *
      clear ne gI st' xx I
      go_wp2_with fail
      go_roundw
      case rel => exact ⟨k + 1, _, by omega, by go_num, rfl, HY.out.symm, hzz, hW5, B5, B6⟩
      case measure => simp [intOf]; omega
    · obtain rfl : k = n3 := by omega
      have HF : Hid (tx (hd ++ (l.take k).flatMap matL) = z) := HA.out.symm
      clear HA hM hl
      go_wp2_with fail
      go_ret
      exact ⟨retS HF.out.symm, by rw [hX]; exact hB⟩
end Go.Proofs.Ytopjiokbmpghjaa
