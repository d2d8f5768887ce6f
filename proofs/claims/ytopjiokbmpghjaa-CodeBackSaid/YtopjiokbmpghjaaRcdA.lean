/-
  The document's own: a byte, a text with its length, a time's six bytes, labels as bytes.
-/
import Derived.Test.YtopjiokbmpghjaaRecM
import Derived.Test.YtopjiokbmpghjaaCls
import Derived.Laws.BitsAllLaws
import Derived.Laws.BytesArg
import Derived.Deep.QuietTactic
import Derived.BigQuiet
namespace Go.Proofs.Ytopjiokbmpghjaa
open Go.RowKit Go.Shelf
set_option linter.unusedVariables false
set_option linter.unusedSimpArgs false

theorem byte_text (w : World) (Q : UInt8) :
    (convert 69 9 (.slice (some ⟨w.heap.size, 0, none⟩) 1 1)).run Try.prog (w.alloc (.cells #[.int .u8 (Q.toNat : Int)] 5)) = .ok (.string (tx [Q])) (w.alloc (.cells #[.int .u8 (Q.toNat : Int)] 5)) := by
  have h := run_convert_bytes_arg (P := Try.prog) (w.alloc (.cells #[.int .u8 (Q.toNat : Int)] 5)) 69 5 Try.underlying69 Try.underlying5 w.heap.size 0 1 1 [(Q.toNat : Int)] rfl (fun i hi => by
    obtain rfl : i = 0 := by simp at hi; omega
    simp) 9 Try.underlying9
  rw [show strOfNums [(Q.toNat : Int)] = tx [Q] by unfold strOfNums tx; simp] at h
  exact h
set_option maxRecDepth 100000 in
set_option maxHeartbeats 800000 in
theorem one_any (n : Int) (h0 : 0 ≤ n) (h1 : n ≤ 255) (w : World) :
    Calls Try.prog 31 #[.int .i64 n] w fun e w' => e = .returned (.string (tx [b1 n])) ∧ Below w.heap.size w w' := by
  have e1 : IntKind.u8.wrap n = ((b1 n).toNat : Int) := by rw [b1_nat h0 h1, IntKind.wrap_u8']; omega
  have hcv := byte_text w (b1 n)
  generalize b1 n = Q at *
  go_enter Try.func31, Try.ntmps31
  go_wp2_with fail
  go_ret
  exact ⟨rfl, (Below.refl _ w).alloc (Nat.le_refl _) _⟩
theorem tx_one_size (c : UInt8) : (tx [c]).size = 1 := by rw [tx_size]; rfl
set_option maxRecDepth 100000 in
set_option maxHeartbeats 800000 in
theorem text_any (s : ByteArray) (hs : s.size ≤ 255) (w : World) :
    Calls Try.prog 34 #[.string s] w fun e w' => e = .returned (.string (tx (txtL s))) ∧ Below w.heap.size w w' := by
  have HX : Hid (tx (txtL s) = tx [b1 (s.size : Int)] ++ s) := by
    show _ = _
    have : tx (txtL s) = tx [b1 (s.size : Int)] ++ tx s.data.toList := by rw [tx_append]; rfl
    rw [this, tx_of]
  have HO := fun w => one_any (s.size : Int) (by omega) (by omega) w
  have hz := tx_one_size (b1 (s.size : Int))
  generalize tx [b1 (s.size : Int)] = y at *
  go_enter Try.func34, Try.ntmps34
  go_wp2_with fail
  refine (HO _).mono ?_
  rintro e w1 ⟨rfl, B1⟩
  go_wp2_with fail
  go_ret
  exact ⟨retS HX.out.symm, B1⟩
/-- the last bytes of a time's six -/
def lastN : Nat → Int → List UInt8
  | 0, _ => []
  | k + 1, t => lastN k (t / 256) ++ [b1 (t % 256)]
theorem six_last (t : Int) : six t = lastN 6 t := by
  have e2 : t / 256 / 256 = t / 65536 := by omega
  have e3 : t / 65536 / 256 = t / 16777216 := by omega
  have e4 : t / 16777216 / 256 = t / 4294967296 := by omega
  have e5 : t / 4294967296 / 256 = t / 1099511627776 := by omega
  unfold six
  simp only [lastN, List.nil_append, List.cons_append, List.append_assoc, e2, e3, e4, e5]
set_option maxRecDepth 100000 in
set_option maxHeartbeats 1600000 in
theorem six_any (t : Int) (h0 : 0 ≤ t) (h1 : t ≤ 1099511627776) (w : World) :
    Calls Try.prog 33 #[.int .i64 t] w fun e w' => e = .returned (.string (tx (six t))) ∧ Below w.heap.size w w' := by
  rw [six_last]
  obtain ⟨R, hR⟩ : ∃ R, Hid (lastN 6 t = R) := ⟨_, rfl⟩
  rw [hR.out]
  go_enter Try.func33, Try.ntmps33
  go_wp2_with fail
  go_loopw [0, 3, 4] (fun s0 s3 s4 wr => ∃ (k : Nat) (u : Int) (z : ByteArray) (y : List UInt8), k ≤ 6 ∧ s4 = .int .i64 k ∧ s0 = .int .i64 u ∧ s3 = .string z ∧ Hid (z = tx y) ∧ 0 ≤ u ∧ u ≤ 1099511627776 ∧ z.size = k ∧ Hid (lastN (6 - k) u ++ y = R) ∧ Below w.heap.size w wr) (fun _ _ s4 _ => 6 - (intOf s4).toNat)
  case atStart => exact ⟨0, t, _, [], by omega, rfl, rfl, rfl, rfl, h0, h1, rfl, by show _ = _; rw [List.append_nil]; exact hR.out, Below.refl _ _⟩
  case round =>
    obtain ⟨k, u, z, y, hk, rfl, rfl, rfl, hz, u0, u1, hzs, hy, hB⟩ := hrel
    by_cases hlt : k < 6
    · have e1 : u.tmod 256 = u % 256 := Int.tmod_eq_emod_of_nonneg u0
      have e2 : u.tdiv 256 = u / 256 := Int.tdiv_eq_ediv_of_nonneg u0
      have HO := fun w => one_any (u % 256) (by omega) (by omega) w
      have HN : Hid (tx [b1 (u % 256)] ++ z = tx (b1 (u % 256) :: y)) := by show _ = _; rw [hz.out, tx_append]; rfl
      have HM : Hid (lastN (6 - (k + 1)) (u / 256) ++ (b1 (u % 256) :: y) = R) := by
        show _ = _
        have := hy.out
        rw [show 6 - k = (6 - (k + 1)) + 1 by omega, lastN, List.append_assoc] at this
        exact this
      have hz1 := tx_one_size (b1 (u % 256))
      have hzz : (tx [b1 (u % 256)] ++ z).size = k + 1 := by rw [ByteArray.size_append, hz1, hzs]; omega
      generalize tx [b1 (u % 256)] = c at *
      generalize b1 (u % 256) = Q at *
      clear hz hy
      go_wp2_with fail
      refine (HO _).mono ?_
      rintro e w1 ⟨rfl, B1⟩
      go_wp2_with fail
      go_roundw
      case rel => exact ⟨k + 1, u / 256, _, Q :: y, by omega, by go_num, by first | rfl | (congr 1; (try unfold wrap64); omega), rfl, HN, by omega, by omega, hzz, HM, hB.trans (B1.mono hB.size)⟩
      case measure => simp [intOf]; omega
    · obtain rfl : k = 6 := by omega
      have HF : Hid (z = tx R) := by
        show _ = _
        rw [hz.out]
        have := hy.out
        rw [show 6 - 6 = 0 from rfl, lastN, List.nil_append] at this
        rw [this]
      clear hz hy
      go_wp2_with fail
      go_ret
      exact ⟨retS HF.out, hB⟩
theorem row_next (l : List L2) (k : Nat) (hk : k < l.length) (hd : List UInt8) : tx (hd ++ (l.take (k + 1)).flatMap labL) = tx (hd ++ (l.take k).flatMap labL) ++ tx (txtL (l.getD k zL).1) ++ tx (txtL (l.getD k zL).2) := by
  rw [takeL_next l k hk, List.flatMap_append, tx_append, tx_append]
  simp [labL]
set_option maxRecDepth 100000 in
set_option maxHeartbeats 3200000 in
theorem labels_any (oa : Option Addr) (n cap : Nat) (l : List L2) (w : World) (h : Ls w oa n cap l) (hn : n ≤ 255) (hs : Short l) :
    Calls Try.prog 32 #[.slice oa n cap] w fun e w' => e = .returned (.string (tx (rowL l))) ∧ Below w.heap.size w w' := by
  have hl := h.len
  have hr := h.room
  have HL := Lib.hid hl
  have HR : Hid (tx (rowL l) = tx ([b1 (n : Int)] ++ (l.take n).flatMap labL)) := by
    show _ = _
    rw [List.take_of_length_le (by omega), ← hl]
    rfl
  have HO := fun w => one_any (n : Int) (by omega) (by omega) w
  have hz1 := tx_one_size (b1 (n : Int))
  have H0 : Hid (tx [b1 (n : Int)] = tx ([b1 (n : Int)] ++ (l.take 0).flatMap labL)) := by show _ = _; simp
  generalize [b1 (n : Int)] = hd at *
  rw [HR.out]
  clear HR
  go_enter Try.func32, Try.ntmps32
  go_wp2_with fail
  refine (HO _).mono ?_
  rintro e w1 ⟨rfl, B1⟩
  generalize hz : tx hd = z0 at *
  clear HO
  go_wp2_with fail
  go_loopw [3, 5, 11] (fun s3 _ s11 wr => ∃ (k : Nat) (z : ByteArray), k ≤ n ∧ s11 = .int .i64 k ∧ s3 = .string z ∧ Hid (z = tx (hd ++ (l.take k).flatMap labL)) ∧ z.size ≤ 1 + 512 * k ∧ Below w.heap.size w wr) (fun _ _ s11 _ => n - (intOf s11).toNat)
  case atStart => exact ⟨0, _, Nat.zero_le _, rfl, rfl, H0, by omega, B1⟩
  case round =>
    obtain ⟨k, z, hk, rfl, rfl, HA, hzs, hB⟩ := hrel
    by_cases hlt : k < n
    · obtain ⟨g, o, rfl, d0, d1⟩ := (h.below hB (Nat.le_refl _)).cell k hlt
      have HX := Lib.hid (row_next l k (by omega) hd)
      rw [← HA.out] at HX
      obtain ⟨z1, z2⟩ := hs (l.getD k zL) (by rw [getD_L l k (by omega)]; exact List.getElem_mem _)
      generalize l.getD k zL = x at *
      obtain ⟨s, u⟩ := x
      dsimp only at d0 d1 z1 z2 HX
      have HS := fun w => text_any s z1 w
      have HU := fun w => text_any u z2 w
      have y1 : (tx (txtL s)).size ≤ 256 := by rw [tx_size, txtL_len]; omega
      have y2 : (tx (txtL u)).size ≤ 256 := by rw [tx_size, txtL_len]; omega
      generalize tx (txtL s) = a at *
      generalize tx (txtL u) = b at *
      have g1 : ∀ w, (Op.stringOp .add z a).run Try.prog w = .ok (.string (z ++ a)) w := fun w => run_string_add_sum _ _ _ (by omega)
      have g2 : ∀ w, (Op.stringOp .add (z ++ a) b).run Try.prog w = .ok (.string (z ++ a ++ b)) w := fun w => run_string_add_sum _ _ _ (by rw [ByteArray.size_append]; omega)
      have hzz : (z ++ a ++ b).size ≤ 1 + 512 * (k + 1) := by rw [ByteArray.size_append, ByteArray.size_append]; omega
      have V0 := Vals.new wr 57 #[.string s, .string u]
      have B0 := hB.alloc hB.size (.cells #[.string s, .string u] 57)
      clear HA hl h HL hs z1 z2
      go_wp2_with fail
      generalize hW : wr.alloc (.cells #[.string s, .string u] 57) = W at *
      generalize wr.heap.size = X at *
      obtain ⟨I, hID⟩ : ∃ I : World → Prop, I = fun wx => Vals wx X 57 #[.string s, .string u] ∧ (w.heap.size ≤ wx.heap.size ∧ Below w.heap.size w wx) := ⟨_, rfl⟩
      have st : Hid (Stable I) := by show Stable I; rw [hID]; exact (Stable.vals _ _ _).and (Stable.below _ _)
      have gI : Hid (∀ wx, I wx → Vals wx X 57 #[.string s, .string u] ∧ (w.heap.size ≤ wx.heap.size ∧ Below w.heap.size w wx)) := by intro wx h; rw [hID] at h; exact h
      have hI0 : I W := by rw [hID]; exact ⟨V0, B0.size, B0⟩
      have hId := st.out.drew hI0
      haveI ne : Nonempty (Cls I) := ⟨⟨_, hId⟩⟩
      clear hID hI0 V0 B0 d0 d1 hW
      have p0 : ∀ x : Cls I, x.w.cell? ⟨X, 0, none⟩ = some (.string s) := fun x => (gI.out _ x.is).1.cell 0
      have p1 : ∀ x : Cls I, x.w.cell? ⟨X, 1, none⟩ = some (.string u) := fun x => (gI.out _ x.is).1.cell 1
      have K1 : Hid (∀ q : Cls I, Calls Try.prog 34 #[.string s] q.w fun e w'' => e = .returned (.string a) ∧ ∃ y : Cls I, w'' = y.w) := fun q => class_of st.out (HS q.w)
      have K2 : Hid (∀ q : Cls I, Calls Try.prog 34 #[.string u] q.w fun e w'' => e = .returned (.string b) ∧ ∃ y : Cls I, w'' = y.w) := fun q => class_of st.out (HU q.w)
      clear HS HU
      refine wp_region_class I (by kernel_rfl) (by kernel_rfl) hId ?_
      iterate 5 (go_big_quiet_step (exact K1.out _))
      iterate 5 (go_big_quiet_step (exact K2.out _))
      refine wpQuiet_nil ?_
      rintro _ ⟨xx, rfl⟩
      clear p0 p1 K1 K2 hId
      obtain ⟨_, hW, B2⟩ := gI.out _ xx.is
      generalize xx.w = W2 at *
      clear ne gI st xx I
      go_wp2_with fail
      go_roundw
      case rel => exact ⟨k + 1, _, by omega, by go_num, rfl, HX.out.symm, hzz, B2⟩
      case measure => simp [intOf]; omega
    · obtain rfl : k = n := by omega
      have HF : Hid (tx (hd ++ (l.take k).flatMap labL) = z) := HA.out.symm
      clear HA hl h HL hs
      go_wp2_with fail
      go_ret
      exact ⟨retS HF.out.symm, hB⟩
end Go.Proofs.Ytopjiokbmpghjaa
