/-
  The program's own: labels, matchers, a duty and a hush as bytes.
-/
import Derived.Test.YtopjiokbmpghjaaCodB
import Derived.Test.YtopjiokbmpghjaaRcdC
namespace Go.Proofs.Ytopjiokbmpghjaa
open Go.RowKit Go.Shelf
set_option linter.unusedVariables false
set_option linter.unusedSimpArgs false

theorem Stable.liesM (oa : Option Addr) (n cap : Nat) (l : List M3) : Stable (fun w => Ms w oa n cap l) := fun _ _ h hB => h.below hB (Nat.le_refl _)
theorem row_next2 (l : List L2) (k : Nat) (hk : k < l.length) (hd : List UInt8) : tx (hd ++ (l.take (k + 1)).flatMap labL) = tx (hd ++ (l.take k).flatMap labL) ++ (tx (txtL (l.getD k zL).1) ++ tx (txtL (l.getD k zL).2)) := by
  rw [row_next l k hk hd]
  simp only [tx_append, List.append_assoc]
set_option maxRecDepth 100000 in
set_option maxHeartbeats 3200000 in
theorem labelsAs_any (oa : Option Addr) (n cap : Nat) (l : List L2) (w : World) (h : Ls w oa n cap l) (hn : n ≤ 255) (hs : Short l) :
    Calls Try.prog 19 #[.slice oa n cap] w fun e w' => e = .returned (.string (tx (rowL l))) ∧ Below w.heap.size w w' := by
  have hl := h.len
  have hr := h.room
  have HL := Lib.hid hl
  have HR : Hid (tx (rowL l) = tx ([b1 (n : Int)] ++ (l.take n).flatMap labL)) := by
    show _ = _
    rw [List.take_of_length_le (by omega), ← hl]
    rfl
  have HO := fun w => numberAs_one (n : Int) (by omega) (by omega) w
  have hz1 := tx_one_size (b1 (n : Int))
  have H0 : Hid (tx [b1 (n : Int)] = tx ([b1 (n : Int)] ++ (l.take 0).flatMap labL)) := by show _ = _; simp
  generalize [b1 (n : Int)] = hd at *
  rw [HR.out]
  clear HR
  go_enter Try.func19, Try.ntmps19
  go_wp2_with fail
  refine (HO _).mono ?_
  rintro e w1 ⟨rfl, B1⟩
  generalize hz : tx hd = z0 at *
  clear HO
  go_wp2_with fail
  go_loopw [3, 5, 11] (fun s3 _ s11 wr => ∃ (k : Nat) (z : ByteArray), k ≤ n ∧ s11 = .int .i64 k ∧ s3 = .string z ∧ Hid (z = tx (hd ++ (l.take k).flatMap labL)) ∧ z.size ≤ 1 + 512 * k ∧ Below w.heap.size w wr) (fun _ _ s11 _ => n - (intOf s11).toNat)
  case atStart => exact ⟨0, _, Nat.zero_le _, rfl, rfl, H0, by omega, B1⟩
  case round =>
    obtain ⟨k, z, hk, rfl, rfl, HA, hzs, hB⟩ := hrel
    by_cases hlt : k < n
    · obtain ⟨g, o, rfl, d0, d1⟩ := (h.below hB (Nat.le_refl _)).cell k hlt
      have HX := Lib.hid (row_next2 l k (by omega) hd)
      rw [← HA.out] at HX
      obtain ⟨z1, z2⟩ := hs (l.getD k zL) (by rw [getD_L l k (by omega)]; exact List.getElem_mem _)
      generalize l.getD k zL = x at *
      obtain ⟨s, u⟩ := x
      dsimp only at d0 d1 z1 z2 HX
      have HS := fun w => textAs_any s z1 w
      have HU := fun w => textAs_any u z2 w
      have y1 : (tx (txtL s)).size ≤ 256 := by rw [tx_size, txtL_len]; omega
      have y2 : (tx (txtL u)).size ≤ 256 := by rw [tx_size, txtL_len]; omega
      generalize tx (txtL s) = a at *
      generalize tx (txtL u) = b at *
      have g1 : ∀ w, (Op.stringOp .add a b).run Try.prog w = .ok (.string (a ++ b)) w := fun w => run_string_add_sum _ _ _ (by omega)
      have g2 : ∀ w, (Op.stringOp .add z (a ++ b)).run Try.prog w = .ok (.string (z ++ (a ++ b))) w := fun w => run_string_add_sum _ _ _ (by rw [ByteArray.size_append]; omega)
      have hzz : (z ++ (a ++ b)).size ≤ 1 + 512 * (k + 1) := by rw [ByteArray.size_append, ByteArray.size_append]; omega
      have V0 := Vals.new wr 57 #[.string s, .string u]
      have B0 := hB.alloc hB.size (.cells #[.string s, .string u] 57)
      clear HA hl h HL hs z1 z2
      go_wp2_with fail
      generalize hW : wr.alloc (.cells #[.string s, .string u] 57) = W at *
      generalize wr.heap.size = X at *
      obtain ⟨I, hID⟩ : ∃ I : World → Prop, I = fun wx => Vals wx X 57 #[.string s, .string u] ∧ (w.heap.size ≤ wx.heap.size ∧ Below w.heap.size w wx) := ⟨_, rfl⟩
      have st : Hid (Stable I) := by show Stable I; rw [hID]; exact (Stable.vals _ _ _).and (Stable.below _ _)
      have gI : Hid (∀ wx, I wx → Vals wx X 57 #[.string s, .string u] ∧ (w.heap.size ≤ wx.heap.size ∧ Below w.heap.size w wx)) := by intro wx h; rw [hID] at h; exact h
      have hI0 : I W := by rw [hID]; exact ⟨V0, B0.size, B0⟩
      have hId := st.out.drew hI0
      haveI ne : Nonempty (Cls I) := ⟨⟨_, hId⟩⟩
      clear hID hI0 V0 B0 d0 d1 hW
      have p0 : ∀ x : Cls I, x.w.cell? ⟨X, 0, none⟩ = some (.string s) := fun x => (gI.out _ x.is).1.cell 0
      have p1 : ∀ x : Cls I, x.w.cell? ⟨X, 1, none⟩ = some (.string u) := fun x => (gI.out _ x.is).1.cell 1
      have K1 : Hid (∀ q : Cls I, Calls Try.prog 42 #[.string s] q.w fun e w'' => e = .returned (.string a) ∧ ∃ y : Cls I, w'' = y.w) := fun q => class_of st.out (HS q.w)
      have K2 : Hid (∀ q : Cls I, Calls Try.prog 42 #[.string u] q.w fun e w'' => e = .returned (.string b) ∧ ∃ y : Cls I, w'' = y.w) := fun q => class_of st.out (HU q.w)
      clear HS HU
      refine wp_region_class I (by kernel_rfl) (by kernel_rfl) hId ?_
      iterate 4 (go_big_quiet_step (exact K1.out _))
      iterate 6 (go_big_quiet_step (exact K2.out _))
      refine wpQuiet_nil ?_
      rintro _ ⟨xx, rfl⟩
      clear p0 p1 K1 K2 hId
      obtain ⟨_, hW, B2⟩ := gI.out _ xx.is
      generalize xx.w = W2 at *
      clear ne gI st xx I
      go_wp2_with fail
      go_roundw
      case rel => exact ⟨k + 1, _, by omega, by go_num, rfl, HX.out.symm, hzz, B2⟩
      case measure => simp [intOf]; omega
    · obtain rfl : k = n := by omega
      have HF : Hid (tx (hd ++ (l.take k).flatMap labL) = z) := HA.out.symm
      clear HA hl h HL hs
      go_wp2_with fail
      go_ret
      exact ⟨retS HF.out.symm, hB⟩
theorem ask_next2 (l : List M3) (k : Nat) (hk : k < l.length) (hd : List UInt8) : tx (hd ++ (l.take (k + 1)).flatMap matL) = tx (hd ++ (l.take k).flatMap matL) ++ (tx [b1 (l.getD k zM).1] ++ tx (txtL (l.getD k zM).2.1) ++ tx (txtL (l.getD k zM).2.2)) := by
  rw [askN_next l k hk hd]
  simp only [tx_append, List.append_assoc]
set_option maxRecDepth 100000 in
set_option maxHeartbeats 3200000 in
theorem matchersAs_any (oa : Option Addr) (n cap : Nat) (l : List M3) (w : World) (h : Ms w oa n cap l) (hn : n ≤ 255) (hs : ShortA l) :
    Calls Try.prog 43 #[.slice oa n cap] w fun e w' => e = .returned (.string (tx (askL l))) ∧ Below w.heap.size w w' := by
  have hl := h.len
  have hr := h.room
  have HL := Lib.hid hl
  have HR : Hid (tx (askL l) = tx ([b1 (n : Int)] ++ (l.take n).flatMap matL)) := by
    show _ = _
    rw [List.take_of_length_le (by omega), ← hl]
    rfl
  have HO := fun w => numberAs_one (n : Int) (by omega) (by omega) w
  have hz1 := tx_one_size (b1 (n : Int))
  have H0 : Hid (tx [b1 (n : Int)] = tx ([b1 (n : Int)] ++ (l.take 0).flatMap matL)) := by show _ = _; simp
  generalize [b1 (n : Int)] = hd at *
  rw [HR.out]
  clear HR
  go_enter Try.func43, Try.ntmps43
  go_wp2_with fail
  refine (HO _).mono ?_
  rintro e w1 ⟨rfl, B1⟩
  generalize hz : tx hd = z0 at *
  clear HO
  go_wp2_with fail
  go_loopw [3, 5, 11] (fun s3 _ s11 wr => ∃ (k : Nat) (z : ByteArray), k ≤ n ∧ s11 = .int .i64 k ∧ s3 = .string z ∧ Hid (z = tx (hd ++ (l.take k).flatMap matL)) ∧ z.size ≤ 1 + 513 * k ∧ Below w.heap.size w wr) (fun _ _ s11 _ => n - (intOf s11).toNat)
  case atStart => exact ⟨0, _, Nat.zero_le _, rfl, rfl, H0, by omega, B1⟩
  case round =>
    obtain ⟨k, z, hk, rfl, rfl, HA, hzs, hB⟩ := hrel
    by_cases hlt : k < n
    · obtain ⟨g, o, rfl, d0, d1, d2⟩ := (h.below hB (Nat.le_refl _)).cell k hlt
      have HX := Lib.hid (ask_next2 l k (by omega) hd)
      rw [← HA.out] at HX
      obtain ⟨z0', z00, z1, z2⟩ := hs (l.getD k zM) (by rw [getD_M l k (by omega)]; exact List.getElem_mem _)
      generalize l.getD k zM = x at *
      obtain ⟨y, s, u⟩ := x
      dsimp only at d0 d1 d2 z0' z00 z1 z2 HX
      have HY := fun w => numberAs_one y z0' z00 w
      have HS := fun w => textAs_any s z1 w
      have HU := fun w => textAs_any u z2 w
      have y0 := tx_one_size (b1 y)
      have y1 : (tx (txtL s)).size ≤ 256 := by rw [tx_size, txtL_len]; omega
      have y2 : (tx (txtL u)).size ≤ 256 := by rw [tx_size, txtL_len]; omega
      generalize tx [b1 y] = c at *
      generalize tx (txtL s) = a at *
      generalize tx (txtL u) = b at *
      have g1 : ∀ w, (Op.stringOp .add c a).run Try.prog w = .ok (.string (c ++ a)) w := fun w => run_string_add_sum _ _ _ (by omega)
      have g2 : ∀ w, (Op.stringOp .add (c ++ a) b).run Try.prog w = .ok (.string (c ++ a ++ b)) w := fun w => run_string_add_sum _ _ _ (by rw [ByteArray.size_append]; omega)
      have g3 : ∀ w, (Op.stringOp .add z (c ++ a ++ b)).run Try.prog w = .ok (.string (z ++ (c ++ a ++ b))) w := fun w => run_string_add_sum _ _ _ (by rw [ByteArray.size_append, ByteArray.size_append]; omega)
      have hzz : (z ++ (c ++ a ++ b)).size ≤ 1 + 513 * (k + 1) := by rw [ByteArray.size_append, ByteArray.size_append, ByteArray.size_append]; omega
      have V0 := Vals.new wr 45 #[.int .i64 y, .string s, .string u]
      have B0 := hB.alloc hB.size (.cells #[.int .i64 y, .string s, .string u] 45)
      clear HA hl h HL hs z1 z2 z0' z00
      go_wp2_with fail
      generalize hW : wr.alloc (.cells #[.int .i64 y, .string s, .string u] 45) = W at *
      generalize wr.heap.size = X at *
      obtain ⟨I, hID⟩ : ∃ I : World → Prop, I = fun wx => Vals wx X 45 #[.int .i64 y, .string s, .string u] ∧ (w.heap.size ≤ wx.heap.size ∧ Below w.heap.size w wx) := ⟨_, rfl⟩
      have st : Hid (Stable I) := by show Stable I; rw [hID]; exact (Stable.vals _ _ _).and (Stable.below _ _)
      have gI : Hid (∀ wx, I wx → Vals wx X 45 #[.int .i64 y, .string s, .string u] ∧ (w.heap.size ≤ wx.heap.size ∧ Below w.heap.size w wx)) := by intro wx h; rw [hID] at h; exact h
      have hI0 : I W := by rw [hID]; exact ⟨V0, B0.size, B0⟩
      have hId := st.out.drew hI0
      haveI ne : Nonempty (Cls I) := ⟨⟨_, hId⟩⟩
      clear hID hI0 V0 B0 d0 d1 d2 hW
      have p0 : ∀ x : Cls I, x.w.cell? ⟨X, 0, none⟩ = some (.int .i64 y) := fun x => (gI.out _ x.is).1.cell 0
      have p1 : ∀ x : Cls I, x.w.cell? ⟨X, 1, none⟩ = some (.string s) := fun x => (gI.out _ x.is).1.cell 1
      have p2 : ∀ x : Cls I, x.w.cell? ⟨X, 2, none⟩ = some (.string u) := fun x => (gI.out _ x.is).1.cell 2
      have K0 : Hid (∀ q : Cls I, Calls Try.prog 17 #[.int .i64 y, .int .i64 1] q.w fun e w'' => e = .returned (.string c) ∧ ∃ y : Cls I, w'' = y.w) := fun q => class_of st.out (HY q.w)
      have K1 : Hid (∀ q : Cls I, Calls Try.prog 42 #[.string s] q.w fun e w'' => e = .returned (.string a) ∧ ∃ y : Cls I, w'' = y.w) := fun q => class_of st.out (HS q.w)
      have K2 : Hid (∀ q : Cls I, Calls Try.prog 42 #[.string u] q.w fun e w'' => e = .returned (.string b) ∧ ∃ y : Cls I, w'' = y.w) := fun q => class_of st.out (HU q.w)
      clear HS HU HY
      refine wp_region_class I (by kernel_rfl) (by kernel_rfl) hId ?_
      iterate 4 (go_big_quiet_step (exact K0.out _))
      iterate 3 (go_big_quiet_step (exact K1.out _))
      iterate 7 (go_big_quiet_step (exact K2.out _))
      refine wpQuiet_nil ?_
      rintro _ ⟨xx, rfl⟩
      clear p0 p1 p2 K0 K1 K2 hId
      obtain ⟨_, hW, B2⟩ := gI.out _ xx.is
      generalize xx.w = W2 at *
      clear ne gI st xx I
      go_wp2_with fail
      go_roundw
      case rel => exact ⟨k + 1, _, by omega, by go_num, rfl, HX.out.symm, hzz, B2⟩
      case measure => simp [intOf]; omega
    · obtain rfl : k = n := by omega
      have HF : Hid (tx (hd ++ (l.take k).flatMap matL) = z) := HA.out.symm
      clear HA hl h HL hs
      go_wp2_with fail
      go_ret
      exact ⟨retS HF.out.symm, hB⟩
set_option maxRecDepth 100000 in
set_option maxHeartbeats 6400000 in
theorem dutyAs_any (oa : Option Addr) (n cap : Nat) (d : D6) (w : World) (h : Ls w oa n cap d.ls) (hr : dutyB d = true) :
    Calls Try.prog 18 #[aggD oa n cap d] w fun e w' => e = .returned (.string (tx (b1 d.rt :: b1 d.pl :: b1 d.tr :: b1 d.st :: (six d.du ++ rowL d.ls)))) ∧ Below w.heap.size w w' := by
  obtain ⟨a1, a2, a3, a4, a5, a6, a7, a8, a9, a10⟩ := (dutyB_iff d).1 hr
  obtain ⟨t1, t2⟩ := (timeB_iff _).1 a8
  obtain ⟨s1, s2⟩ := right_short a1
  have hn : n ≤ 255 := by have := h.len; omega
  have z6 := tx_len (rowL_len a1)
  obtain ⟨l, rt, pl, tr, du, st⟩ := d
  dsimp only [aggD, dV] at *
  have HX : Hid (tx (b1 rt :: b1 pl :: b1 tr :: b1 st :: (six du ++ rowL l)) = tx [b1 rt] ++ tx [b1 pl] ++ tx [b1 tr] ++ tx [b1 st] ++ tx (six du) ++ tx (rowL l)) := by
    show _ = _
    simp only [tx_append]
    rfl
  have HS := fun w (h : Ls w oa n cap l) => labelsAs_any oa n cap l w h hn (fun x hx => by have := s1 x hx; omega)
  have H1 := fun w => numberAs_one rt (by omega) (by omega) w
  have H2 := fun w => numberAs_one pl (by omega) (by omega) w
  have H3 := fun w => numberAs_one tr (by omega) (by omega) w
  have H4 := fun w => numberAs_one st (by omega) (by omega) w
  have H5 := fun w => numberAs_six du t1 t2 w
  have z1 := tx_one_size (b1 rt)
  have z2 := tx_one_size (b1 pl)
  have z3 := tx_one_size (b1 tr)
  have z4 := tx_one_size (b1 st)
  have z5 : (tx (six du)).size = 6 := by rw [tx_size]; rfl
  generalize tx [b1 rt] = p1 at *
  generalize tx [b1 pl] = p2 at *
  generalize tx [b1 tr] = p3 at *
  generalize tx [b1 st] = p4 at *
  generalize tx (six du) = p5 at *
  generalize tx (rowL l) = p6 at *
  have g2 : ∀ w, (Op.stringOp .add p1 p2).run Try.prog w = .ok (.string (p1 ++ p2)) w := fun w => run_string_add_sum _ _ _ (by first | omega | (simp only [ByteArray.size_append]; omega))
  have g3 : ∀ w, (Op.stringOp .add (p1 ++ p2) p3).run Try.prog w = .ok (.string (p1 ++ p2 ++ p3)) w := fun w => run_string_add_sum _ _ _ (by first | omega | (simp only [ByteArray.size_append]; omega))
  have g4 : ∀ w, (Op.stringOp .add (p1 ++ p2 ++ p3) p4).run Try.prog w = .ok (.string (p1 ++ p2 ++ p3 ++ p4)) w := fun w => run_string_add_sum _ _ _ (by first | omega | (simp only [ByteArray.size_append]; omega))
  have g5 : ∀ w, (Op.stringOp .add (p1 ++ p2 ++ p3 ++ p4) p5).run Try.prog w = .ok (.string (p1 ++ p2 ++ p3 ++ p4 ++ p5)) w := fun w => run_string_add_sum _ _ _ (by first | omega | (simp only [ByteArray.size_append]; omega))
  have g6 : ∀ w, (Op.stringOp .add (p1 ++ p2 ++ p3 ++ p4 ++ p5) p6).run Try.prog w = .ok (.string (p1 ++ p2 ++ p3 ++ p4 ++ p5 ++ p6)) w := fun w => run_string_add_sum _ _ _ (by first | omega | (simp only [ByteArray.size_append]; omega))
  have V0 := Vals.new w 24 #[.slice oa n cap, .int .i64 rt, .int .i64 pl, .int .i64 tr, .int .i64 du, .int .i64 st]
  have B0 := below_alloc w (.cells #[.slice oa n cap, .int .i64 rt, .int .i64 pl, .int .i64 tr, .int .i64 du, .int .i64 st] 24)
  have h0 := h.below B0 (Nat.le_refl _)
  clear h hr s1 s2 a1 a2 a3 a4 a5 a6 a7 a8 a9 a10
  go_enter Try.func18, Try.ntmps18
  go_wp2_with fail
  generalize w.alloc _ = W at *
  generalize hX : w.heap.size = X at *
  obtain ⟨I, hID⟩ : ∃ I : World → Prop, I = fun wx => Vals wx X 24 #[.slice oa n cap, .int .i64 rt, .int .i64 pl, .int .i64 tr, .int .i64 du, .int .i64 st] ∧ Ls wx oa n cap l ∧ (X ≤ wx.heap.size ∧ Below X w wx) := ⟨_, rfl⟩
  have st' : Hid (Stable I) := by show Stable I; rw [hID]; exact (Stable.vals _ _ _).and ((Stable.liesL _ _ _ _).and (Stable.below _ _))
  have gI : Hid (∀ wx, I wx → Vals wx X 24 #[.slice oa n cap, .int .i64 rt, .int .i64 pl, .int .i64 tr, .int .i64 du, .int .i64 st] ∧ Ls wx oa n cap l ∧ (X ≤ wx.heap.size ∧ Below X w wx)) := by intro wx h; rw [hID] at h; exact h
  have hI0 : I W := by rw [hID]; exact ⟨V0, h0, hX ▸ B0.size, B0⟩
  have hId := st'.out.drew hI0
  haveI ne : Nonempty (Cls I) := ⟨⟨_, hId⟩⟩
  clear hID hI0 V0 B0 h0
  have c0 : ∀ x : Cls I, x.w.cell? ⟨X, 0, none⟩ = some (.slice oa n cap) := fun x => (gI.out _ x.is).1.cell 0
  have c1' : ∀ x : Cls I, x.w.cell? ⟨X, 1, none⟩ = some (.int .i64 rt) := fun x => (gI.out _ x.is).1.cell 1
  have c2' : ∀ x : Cls I, x.w.cell? ⟨X, 2, none⟩ = some (.int .i64 pl) := fun x => (gI.out _ x.is).1.cell 2
  have c3' : ∀ x : Cls I, x.w.cell? ⟨X, 3, none⟩ = some (.int .i64 tr) := fun x => (gI.out _ x.is).1.cell 3
  have c4 : ∀ x : Cls I, x.w.cell? ⟨X, 4, none⟩ = some (.int .i64 du) := fun x => (gI.out _ x.is).1.cell 4
  have c5 : ∀ x : Cls I, x.w.cell? ⟨X, 5, none⟩ = some (.int .i64 st) := fun x => (gI.out _ x.is).1.cell 5
  have K1 : Hid (∀ z : Cls I, Calls Try.prog 17 #[.int .i64 rt, .int .i64 1] z.w fun e w'' => e = .returned (.string p1) ∧ ∃ y : Cls I, w'' = y.w) := fun z => class_of st'.out (H1 z.w)
  have K2 : Hid (∀ z : Cls I, Calls Try.prog 17 #[.int .i64 pl, .int .i64 1] z.w fun e w'' => e = .returned (.string p2) ∧ ∃ y : Cls I, w'' = y.w) := fun z => class_of st'.out (H2 z.w)
  have K3 : Hid (∀ z : Cls I, Calls Try.prog 17 #[.int .i64 tr, .int .i64 1] z.w fun e w'' => e = .returned (.string p3) ∧ ∃ y : Cls I, w'' = y.w) := fun z => class_of st'.out (H3 z.w)
  have K4 : Hid (∀ z : Cls I, Calls Try.prog 17 #[.int .i64 st, .int .i64 1] z.w fun e w'' => e = .returned (.string p4) ∧ ∃ y : Cls I, w'' = y.w) := fun z => class_of st'.out (H4 z.w)
  have K5 : Hid (∀ z : Cls I, Calls Try.prog 17 #[.int .i64 du, .int .i64 6] z.w fun e w'' => e = .returned (.string p5) ∧ ∃ y : Cls I, w'' = y.w) := fun z => class_of st'.out (H5 z.w)
  have K6 : Hid (∀ z : Cls I, Calls Try.prog 19 #[.slice oa n cap] z.w fun e w'' => e = .returned (.string p6) ∧ ∃ y : Cls I, w'' = y.w) := fun z => class_of st'.out (HS z.w (gI.out _ z.is).2.1)
  clear HS H1 H2 H3 H4 H5
  refine wp_region_class I (by kernel_rfl) (by kernel_rfl) hId ?_
  iterate 3 (go_big_quiet_step (exact K1.out _))
  iterate 3 (go_big_quiet_step (exact K2.out _))
  iterate 4 (go_big_quiet_step (exact K3.out _))
  iterate 4 (go_big_quiet_step (exact K4.out _))
  iterate 4 (go_big_quiet_step (exact K5.out _))
  iterate 6 (go_big_quiet_step (exact K6.out _))
  refine wpQuiet_nil ?_
  rintro _ ⟨xx, rfl⟩
  clear c0 c1' c2' c3' c4 c5 K1 K2 K3 K4 K5 K6 hId
  obtain ⟨_, _, _, B2⟩ := gI.out _ xx.is
  generalize xx.w = W2 at *
  clear ne gI st' xx I
  go_wp2_with fail
  go_ret
  exact ⟨retS HX.out.symm, by rw [hX]; exact B2⟩
set_option maxRecDepth 100000 in
set_option maxHeartbeats 6400000 in
theorem hushAs_any (f t : Int) (oa : Option Addr) (n cap : Nat) (l : List M3) (w : World) (h : Ms w oa n cap l) (hr : hushR f t l = true) :
    Calls Try.prog 20 #[.agg #[.int .i64 f, .int .i64 t, .slice oa n cap]] w fun e w' => e = .returned (.string (tx (six f ++ (six t ++ askL l)))) ∧ Below w.heap.size w w' := by
  obtain ⟨a1, a2, a3, a4, a5⟩ := (hushR_iff f t l).1 hr
  obtain ⟨f1, f2⟩ := (timeB_iff _).1 a1
  obtain ⟨t1, t2⟩ := (timeB_iff _).1 a2
  obtain ⟨s1, s2⟩ := mats_short a5
  have hn : n ≤ 255 := by have := h.len; omega
  have z6 : (tx (askL l)).size ≤ 100 := by
    rw [tx_size]
    have := ask_len l s1
    unfold askL
    simp only [List.length_cons]
    omega
  have HX : Hid (tx (six f ++ (six t ++ askL l)) = tx (six f) ++ tx (six t) ++ tx (askL l)) := by
    show _ = _
    simp only [tx_append, List.append_assoc]
  have HS := fun w (h : Ms w oa n cap l) => matchersAs_any oa n cap l w h hn (fun x hx => by have := s1 x hx; omega)
  have H1 := fun w => numberAs_six f f1 f2 w
  have H2 := fun w => numberAs_six t t1 t2 w
  have z1 : (tx (six f)).size = 6 := by rw [tx_size]; rfl
  have z2 : (tx (six t)).size = 6 := by rw [tx_size]; rfl
  generalize tx (six f) = p1 at *
  generalize tx (six t) = p2 at *
  generalize tx (askL l) = p6 at *
  have g2 : ∀ w, (Op.stringOp .add p1 p2).run Try.prog w = .ok (.string (p1 ++ p2)) w := fun w => run_string_add_sum _ _ _ (by first | omega | (simp only [ByteArray.size_append]; omega))
  have g3 : ∀ w, (Op.stringOp .add (p1 ++ p2) p6).run Try.prog w = .ok (.string (p1 ++ p2 ++ p6)) w := fun w => run_string_add_sum _ _ _ (by first | omega | (simp only [ByteArray.size_append]; omega))
  have V0 := Vals.new w 27 #[.int .i64 f, .int .i64 t, .slice oa n cap]
  have B0 := below_alloc w (.cells #[.int .i64 f, .int .i64 t, .slice oa n cap] 27)
  have h0 := h.below B0 (Nat.le_refl _)
  clear h hr s1 s2 a1 a2 a3 a4 a5
  go_enter Try.func20, Try.ntmps20
  go_wp2_with fail
  generalize w.alloc _ = W at *
  generalize hX : w.heap.size = X at *
  obtain ⟨I, hID⟩ : ∃ I : World → Prop, I = fun wx => Vals wx X 27 #[.int .i64 f, .int .i64 t, .slice oa n cap] ∧ Ms wx oa n cap l ∧ (X ≤ wx.heap.size ∧ Below X w wx) := ⟨_, rfl⟩
  have st' : Hid (Stable I) := by show Stable I; rw [hID]; exact (Stable.vals _ _ _).and ((Stable.liesM _ _ _ _).and (Stable.below _ _))
  have gI : Hid (∀ wx, I wx → Vals wx X 27 #[.int .i64 f, .int .i64 t, .slice oa n cap] ∧ Ms wx oa n cap l ∧ (X ≤ wx.heap.size ∧ Below X w wx)) := by intro wx h; rw [hID] at h; exact h
  have hI0 : I W := by rw [hID]; exact ⟨V0, h0, hX ▸ B0.size, B0⟩
  have hId := st'.out.drew hI0
  haveI ne : Nonempty (Cls I) := ⟨⟨_, hId⟩⟩
  clear hID hI0 V0 B0 h0
  have c0 : ∀ x : Cls I, x.w.cell? ⟨X, 0, none⟩ = some (.int .i64 f) := fun x => (gI.out _ x.is).1.cell 0
  have c1' : ∀ x : Cls I, x.w.cell? ⟨X, 1, none⟩ = some (.int .i64 t) := fun x => (gI.out _ x.is).1.cell 1
  have c2' : ∀ x : Cls I, x.w.cell? ⟨X, 2, none⟩ = some (.slice oa n cap) := fun x => (gI.out _ x.is).1.cell 2
  have K1 : Hid (∀ z : Cls I, Calls Try.prog 17 #[.int .i64 f, .int .i64 6] z.w fun e w'' => e = .returned (.string p1) ∧ ∃ y : Cls I, w'' = y.w) := fun z => class_of st'.out (H1 z.w)
  have K2 : Hid (∀ z : Cls I, Calls Try.prog 17 #[.int .i64 t, .int .i64 6] z.w fun e w'' => e = .returned (.string p2) ∧ ∃ y : Cls I, w'' = y.w) := fun z => class_of st'.out (H2 z.w)
  have K6 : Hid (∀ z : Cls I, Calls Try.prog 43 #[.slice oa n cap] z.w fun e w'' => e = .returned (.string p6) ∧ ∃ y : Cls I, w'' = y.w) := fun z => class_of st'.out (HS z.w (gI.out _ z.is).2.1)
  clear HS H1 H2
  refine wp_region_class I (by kernel_rfl) (by kernel_rfl) hId ?_
  iterate 3 (go_big_quiet_step (exact K1.out _))
  iterate 3 (go_big_quiet_step (exact K2.out _))
  iterate 6 (go_big_quiet_step (exact K6.out _))
  refine wpQuiet_nil ?_
  rintro _ ⟨xx, rfl⟩
  clear c0 c1' c2' K1 K2 K6 hId
  obtain ⟨_, _, _, B2⟩ := gI.out _ xx.is
  generalize xx.w = W2 at *
  clear ne gI st' xx I
  go_wp2_with fail
  go_ret
  exact ⟨retS HX.out.symm, by rw [hX]; exact B2⟩
end Go.Proofs.Ytopjiokbmpghjaa
