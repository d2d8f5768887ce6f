/-
  The document's own: what a message is printed as.
-/
import Derived.Test.YthncfcjkpcjkiaaGreatDoorWirP
namespace Go.Proofs.YthncfcjkpcjkiaaGreatDoor
open Go.RowKit Go.Shelf
set_option linter.unusedVariables false

theorem lab_next (hd : List UInt8) (l : List L2) (k : Nat) (hk : k < l.length) :
    tx (hd ++ ((l.take (k + 1)).map labW).flatMap fun v => 32 :: v) = tx (hd ++ ((l.take k).map labW).flatMap fun v => 32 :: v) ++ ⟨#[32]⟩ ++ (l.getD k zL).1 ++ ⟨#[61]⟩ ++ (l.getD k zL).2 := by
  rw [takeL_next l k hk, List.map_append, List.flatMap_append, ← List.append_assoc]
  generalize hd ++ ((l.take k).map labW).flatMap (fun v => 32 :: v) = acc
  generalize l.getD k zL = x
  obtain ⟨s, t⟩ := x
  dsimp only
  rw [show (⟨#[32]⟩ : ByteArray) = tx [32] from rfl, show (⟨#[61]⟩ : ByteArray) = tx [61] from rfl]
  conv => rhs; rw [← tx_of s, ← tx_of t]
  rw [tx_append, tx_append, tx_append, tx_append]
  simp [labW]
set_option maxRecDepth 100000 in
set_option maxHeartbeats 6400000 in
theorem refPrint_alert (q f t : Int) (hq : q = 0 ∨ q = 1) (oa : Option Addr) (n cap : Nat) (vb : Value) (l : List L2) (w : World) (hL : Ls w oa n cap l) (hn : n ≤ 6) (hz : ∀ k, k < l.length → (l.getD k zL).1.size ≤ 12 ∧ (l.getD k zL).2.size ≤ 12) (ob : Option Addr) (nb cb : Nat) (hvb : vb = .slice ob nb cb) :
    Calls Tryz.prog 21 #[.agg (msgC q (.slice oa n cap) f t vb)] w fun e w' => e = .returned (.string (tx ((if q = 1 then doneT else fireT) ++ (l.map labW).flatMap fun v => 32 :: v))) ∧ Below w.heap.size w w' := by
  have hl := hL.len
  have hr := hL.room
  subst hvb
  have HZ := Lib.hid hz
  clear hz
  obtain ⟨hd, hhd⟩ : ∃ hd, hd = if q = 1 then doneT else fireT := ⟨_, rfl⟩
  have hd4 : hd.length = 4 := by rw [hhd]; split <;> rfl
  have HD := Lib.hid hhd
  rw [← hhd]
  clear hhd
  have V0 := Vals.new w 27 (msgC q (.slice oa n cap) f t (.slice ob nb cb))
  have B0 := below_alloc w (.cells (msgC q (.slice oa n cap) f t (.slice ob nb cb)) 27)
  go_enter Tryz.func21, Tryz.ntmps21
  go_upto_region 1 with fail
  generalize w.alloc (.cells (msgC q (.slice oa n cap) f t (.slice ob nb cb)) 27) = w1 at *
  have c0 : w1.cell? ⟨w.heap.size, 0, none⟩ = some (.int .i64 q) := V0.cell 0
  have c1 : w1.cell? ⟨w.heap.size, 1, none⟩ = some (.slice oa n cap) := V0.cell 1
  rcases hq with rfl | rfl
  · have HD2 : Hid ((⟨#[102, 105, 114, 101]⟩ : ByteArray) = tx (hd ++ ((l.take 0).map labW).flatMap fun v => 32 :: v)) := by show _ = _; rw [HD.out]; rfl
    go_wp2_with fail
    go_loopw [6, 8, 44] (fun s6 _ s44 wr => ∃ (k : Nat) (z : ByteArray), k ≤ n ∧ s44 = .int .i64 k ∧ s6 = .string z ∧ Hid (z = tx (hd ++ ((l.take k).map labW).flatMap fun v => 32 :: v)) ∧ z.size ≤ 4 + 26 * k ∧ Below w.heap.size w wr) (fun _ _ s44 _ => n - (intOf s44).toNat)
    case atStart => exact ⟨0, _, Nat.zero_le _, rfl, rfl, HD2, by decide, B0⟩
    case round =>
      obtain ⟨k, z, hk, rfl, rfl, HA, hzs, hB⟩ := hrel
      clear HD2 V0 c0 c1 B0
      by_cases hlt : k < n
      · obtain ⟨g, o, rfl, d0, d1⟩ := (hL.below hB (Nat.le_refl _)).cell k hlt
        have HX := Lib.hid (lab_next hd l k (by omega))
        rw [← HA.out] at HX
        obtain ⟨z1, z2⟩ := HZ.out k (by omega)
        generalize l.getD k zL = x at *
        obtain ⟨s, u⟩ := x
        dsimp only at d0 d1 z1 z2 HX
        have hB7 := hB.alloc hB.size (.cells #[.string s, .string u] 52)
        have e1 : (⟨#[32]⟩ : ByteArray).size = 1 := rfl
        have e2 : (⟨#[61]⟩ : ByteArray).size = 1 := rfl
        clear HD hL hl HZ HA
        go_wp2_with fail
        go_roundw
        case rel => exact ⟨k + 1, _, by omega, by go_num, rfl, HX.out.symm, by simp only [ByteArray.size_append]; omega, hB7⟩
        case measure => simp [intOf]; omega
      · obtain rfl : k = n := by omega
        have HF : Hid (tx (hd ++ (l.map labW).flatMap fun v => 32 :: v) = z) := by
          have h := HA.out
          rw [List.take_of_length_le (by omega)] at h
          exact h.symm
        clear HD hL hl HZ HA
        go_wp2_with fail
        go_ret
        exact ⟨retS HF.out.symm, hB⟩
  · have HD2 : Hid ((⟨#[100, 111, 110, 101]⟩ : ByteArray) = tx (hd ++ ((l.take 0).map labW).flatMap fun v => 32 :: v)) := by show _ = _; rw [HD.out]; rfl
    go_wp2_with fail
    go_loopw [6, 8, 44] (fun s6 _ s44 wr => ∃ (k : Nat) (z : ByteArray), k ≤ n ∧ s44 = .int .i64 k ∧ s6 = .string z ∧ Hid (z = tx (hd ++ ((l.take k).map labW).flatMap fun v => 32 :: v)) ∧ z.size ≤ 4 + 26 * k ∧ Below w.heap.size w wr) (fun _ _ s44 _ => n - (intOf s44).toNat)
    case atStart => exact ⟨0, _, Nat.zero_le _, rfl, rfl, HD2, by decide, B0⟩
    case round =>
      obtain ⟨k, z, hk, rfl, rfl, HA, hzs, hB⟩ := hrel
      clear HD2 V0 c0 c1 B0
      by_cases hlt : k < n
      · obtain ⟨g, o, rfl, d0, d1⟩ := (hL.below hB (Nat.le_refl _)).cell k hlt
        have HX := Lib.hid (lab_next hd l k (by omega))
        rw [← HA.out] at HX
        obtain ⟨z1, z2⟩ := HZ.out k (by omega)
        generalize l.getD k zL = x at *
        obtain ⟨s, u⟩ := x
        dsimp only at d0 d1 z1 z2 HX
        have hB7 := hB.alloc hB.size (.cells #[.string s, .string u] 52)
        have e1 : (⟨#[32]⟩ : ByteArray).size = 1 := rfl
        have e2 : (⟨#[61]⟩ : ByteArray).size = 1 := rfl
        clear HD hL hl HZ HA
        go_wp2_with fail
        go_roundw
        case rel => exact ⟨k + 1, _, by omega, by go_num, rfl, HX.out.symm, by simp only [ByteArray.size_append]; omega, hB7⟩
        case measure => simp [intOf]; omega
      · obtain rfl : k = n := by omega
        have HF : Hid (tx (hd ++ (l.map labW).flatMap fun v => 32 :: v) = z) := by
          have h := HA.out
          rw [List.take_of_length_le (by omega)] at h
          exact h.symm
        clear HD hL hl HZ HA
        go_wp2_with fail
        go_ret
        exact ⟨retS HF.out.symm, hB⟩
theorem ask_next (hd : List UInt8) (l : List M3) (k : Nat) (hk : k < l.length) :
    tx (hd ++ ((l.take (k + 1)).map askB).flatMap fun v => 32 :: v) = tx (hd ++ ((l.take k).map askB).flatMap fun v => 32 :: v) ++ ⟨#[32]⟩ ++ tx (askB (l.getD k zM)) := by
  rw [takeM_next l k hk, List.map_append, List.flatMap_append, ← List.append_assoc]
  generalize hd ++ ((l.take k).map askB).flatMap (fun v => 32 :: v) = acc
  generalize l.getD k zM = x
  rw [show (⟨#[32]⟩ : ByteArray) = tx [32] from rfl, tx_append, tx_append]
  simp
set_option maxRecDepth 100000 in
set_option maxHeartbeats 6400000 in
theorem refPrint_hush (f t : Nat) (hf : f ≤ 1000000000000000) (ht : t ≤ 1000000000000000) (oa : Option Addr) (n cap : Nat) (ob : Option Addr) (nb cb : Nat) (ms : List M3) (w : World) (hM : Ms w ob nb cb ms) (hn : nb ≤ 6) (hz : ∀ k, k < ms.length → (0 ≤ (ms.getD k zM).1 ∧ (ms.getD k zM).1 ≤ 3) ∧ (ms.getD k zM).2.1.size ≤ 12 ∧ (ms.getD k zM).2.2.size ≤ 12) :
    Calls Tryz.prog 21 #[.agg (msgC 2 (.slice oa n cap) (f : Int) (t : Int) (.slice ob nb cb))] w fun e w' => e = .returned (.string (tx (hushT ++ 32 :: digsB f ++ 32 :: digsB t ++ (ms.map askB).flatMap fun v => 32 :: v))) ∧ Below w.heap.size w w' := by
  have hl := hM.len
  have hr := hM.room
  have HZ := Lib.hid hz
  clear hz
  have HH : Hid (tx (hushT ++ 32 :: digsB f ++ 32 :: digsB t) = ⟨#[104, 117, 115, 104, 32]⟩ ++ tx (digsB f) ++ ⟨#[32]⟩ ++ tx (digsB t)) := by
    show _ = _
    rw [show (⟨#[104, 117, 115, 104, 32]⟩ : ByteArray) = tx [104, 117, 115, 104, 32] from rfl, show (⟨#[32]⟩ : ByteArray) = tx [32] from rfl, tx_append, tx_append, tx_append]
    simp [hushT]
  have s1 : (tx (digsB f)).size ≤ 16 := by rw [tx_size]; exact digsB_length 15 f (by omega)
  have s2 : (tx (digsB t)).size ≤ 16 := by rw [tx_size]; exact digsB_length 15 t (by omega)
  generalize hushT ++ 32 :: digsB f ++ 32 :: digsB t = hd at *
  have V0 := Vals.new w 27 (msgC 2 (.slice oa n cap) (f : Int) (t : Int) (.slice ob nb cb))
  have B0 := below_alloc w (.cells (msgC 2 (.slice oa n cap) (f : Int) (t : Int) (.slice ob nb cb)) 27)
  go_enter Tryz.func21, Tryz.ntmps21
  go_upto_region 1 with fail
  generalize w.alloc (.cells (msgC 2 (.slice oa n cap) (f : Int) (t : Int) (.slice ob nb cb)) 27) = w1 at *
  have c0 : w1.cell? ⟨w.heap.size, 0, none⟩ = some (.int .i64 2) := V0.cell 0
  have c2 : w1.cell? ⟨w.heap.size, 2, none⟩ = some (.int .i64 (f : Int)) := V0.cell 2
  have c3 : w1.cell? ⟨w.heap.size, 3, none⟩ = some (.int .i64 (t : Int)) := V0.cell 3
  have c4 : w1.cell? ⟨w.heap.size, 4, none⟩ = some (.slice ob nb cb) := V0.cell 4
  have e0 : (⟨#[104, 117, 115, 104, 32]⟩ : ByteArray).size = 5 := rfl
  have e1 : (⟨#[32]⟩ : ByteArray).size = 1 := rfl
  have g4 : ∀ w, (Op.stringOp .add ⟨#[104, 117, 115, 104, 32]⟩ (tx (digsB f))).run Tryz.prog w = .ok (.string (⟨#[104, 117, 115, 104, 32]⟩ ++ tx (digsB f))) w := fun w => run_string_add_sum _ _ _ (by rw [e0]; omega)
  have g5 : ∀ w, (Op.stringOp .add (⟨#[104, 117, 115, 104, 32]⟩ ++ tx (digsB f)) ⟨#[32]⟩).run Tryz.prog w = .ok (.string (⟨#[104, 117, 115, 104, 32]⟩ ++ tx (digsB f) ++ ⟨#[32]⟩)) w := fun w => run_string_add_sum _ _ _ (by rw [ByteArray.size_append, e0, e1]; omega)
  have g10 : ∀ w, (Op.stringOp .add (⟨#[104, 117, 115, 104, 32]⟩ ++ tx (digsB f) ++ ⟨#[32]⟩) (tx (digsB t))).run Tryz.prog w = .ok (.string (⟨#[104, 117, 115, 104, 32]⟩ ++ tx (digsB f) ++ ⟨#[32]⟩ ++ tx (digsB t))) w := fun w => run_string_add_sum _ _ _ (by rw [ByteArray.size_append, ByteArray.size_append, e0, e1]; omega)
  obtain ⟨A, hA⟩ : ∃ A, A = w.heap.size := ⟨_, rfl⟩
  rw [← hA] at c0 c2 c3 c4 V0
  rw [← hA]
  clear hA
  go_wp2_with fail
  go_region_held3 (fun w' => w'.cell? ⟨A, 2, none⟩ = some (.int .i64 (f : Int)) ∧ w'.cell? ⟨A, 3, none⟩ = some (.int .i64 (t : Int))) (first | exact ⟨c2, c3⟩ | go_keep) (first | (go_at_call 44; refine Calls.mono (refDigits_any _ _ (by first | exact hf | exact ht)) ?_; rintro e wz ⟨rfl, Bz⟩; have c2 := keepR Bz c2; have c3 := keepR Bz c3; have c4 := keepR Bz c4; first | have B0 := B0.drew.trans (Bz.mono B0.drew.size) | have B0 := B0.trans (Bz.mono B0.size)))
  have HH2 : Hid ((⟨#[104, 117, 115, 104, 32]⟩ : ByteArray) ++ tx (digsB f) ++ ⟨#[32]⟩ ++ tx (digsB t) = tx (hd ++ ((ms.take 0).map askB).flatMap fun v => 32 :: v)) := by show _ = _; rw [← HH.out]; simp
  have sz : ((⟨#[104, 117, 115, 104, 32]⟩ : ByteArray) ++ tx (digsB f) ++ ⟨#[32]⟩ ++ tx (digsB t)).size ≤ 40 := by rw [ByteArray.size_append, ByteArray.size_append, ByteArray.size_append, e0, e1]; omega
  generalize (⟨#[104, 117, 115, 104, 32]⟩ : ByteArray) ++ tx (digsB f) ++ ⟨#[32]⟩ ++ tx (digsB t) = z0 at *
  clear g4 g5 g10 HH s1 s2 V0 c0 c2 c3
  go_wp2_with fail
  go_loopw [3, 5, 27] (fun s3 _ s27 wr => ∃ (k : Nat) (z : ByteArray), k ≤ nb ∧ s27 = .int .i64 k ∧ s3 = .string z ∧ Hid (z = tx (hd ++ ((ms.take k).map askB).flatMap fun v => 32 :: v)) ∧ z.size ≤ 40 + 26 * k ∧ Below w.heap.size w wr) (fun _ _ s27 _ => nb - (intOf s27).toNat)
  case atStart => exact ⟨0, _, Nat.zero_le _, rfl, rfl, HH2, sz, B0⟩
  case round =>
    obtain ⟨k, z, hk, rfl, rfl, HA, hzs, hB⟩ := hrel
    clear HH2 B0 c4 sz
    by_cases hlt : k < nb
    · obtain ⟨g, o, rfl, d0, d1, d2⟩ := (hM.below hB (Nat.le_refl _)).cell k hlt
      have HX := Lib.hid (ask_next hd ms k (by omega))
      rw [← HA.out] at HX
      obtain ⟨z0, z1, z2⟩ := HZ.out k (by omega)
      generalize ms.getD k zM = x at *
      have HK := fun w => refAsk_any x z0 ⟨by omega, by omega⟩ w
      have za : (tx (askB x)).size ≤ 25 := by rw [ask_text, ByteArray.size_append, ByteArray.size_append, tx_size]; simp; omega
      generalize tx (askB x) = y at *
      obtain ⟨q, s, u⟩ := x
      dsimp only [aggM] at d0 d1 d2 HK
      have hB7 := hB.alloc hB.size (.cells #[.int .i64 q, .string s, .string u] 32)
      have hzz : (z ++ (⟨#[32]⟩ : ByteArray)).size = z.size + 1 := by rw [ByteArray.size_append, e1]
      clear hM hl HZ HA z0 z1 z2
      go_wp2_with fail
      refine (HK _).mono ?_
      rintro e w5 ⟨rfl, B5⟩
      go_wp2_with fail
      go_roundw
      case rel => exact ⟨k + 1, _, by omega, by go_num, rfl, HX.out.symm, by rw [ByteArray.size_append, hzz]; omega, hB7.trans (B5.mono hB7.size)⟩
      case measure => simp [intOf]; omega
    · obtain rfl : k = nb := by omega
      have HF : Hid (tx (hd ++ (ms.map askB).flatMap fun v => 32 :: v) = z) := by
        have h := HA.out
        rw [List.take_of_length_le (by omega)] at h
        exact h.symm
      clear hM hl HZ HA
      go_wp2_with fail
      go_ret
      exact ⟨retS HF.out.symm, hB⟩
theorem printB_alert (q f t : Int) (hq : q = 0 ∨ q = 1) (l : List L2) (ms : List M3) : printB (q, l, f, t, ms) = (if q = 1 then doneT else fireT) ++ (l.map labW).flatMap fun v => 32 :: v := by
  unfold printB printW
  rw [if_neg (by dsimp only; omega)]
  rfl
theorem printB_hush (f t : Nat) (l : List L2) (ms : List M3) : printB (2, l, (f : Int), (t : Int), ms) = hushT ++ 32 :: digsB f ++ 32 :: digsB t ++ (ms.map askB).flatMap fun v => 32 :: v := by
  unfold printB printW
  rw [if_pos rfl]
  simp [joinB]
end Go.Proofs.YthncfcjkpcjkiaaGreatDoor
