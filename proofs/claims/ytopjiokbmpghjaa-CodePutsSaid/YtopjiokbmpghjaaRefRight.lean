/-
  The document's own answer: which labels may be.
-/
import Derived.Test.YtopjiokbmpghjaaLabT
namespace Go.Proofs.Ytopjiokbmpghjaa
open Go.RowKit Go.Shelf
set_option linter.unusedVariables false

set_option maxRecDepth 100000 in
set_option maxHeartbeats 4000000 in
theorem refRight_any (oa : Option Addr) (n cap : Nat) (l : List L2) (w : World) (h : Ls w oa n cap l) (hn : n ≤ 4611686018427387904) (hS : ShortL l) :
    Calls Try.prog 29 #[.slice oa n cap] w fun e w' => e = .returned (.bool (rightB l)) ∧ Below w.heap.size w w' := by
  have hl := h.len
  have hr := h.room
  have HR : Hid (rightB l = (posB l && riseB l)) := rfl
  have HEach := fun w1 (B1 : Below w.heap.size w w1) => refEach_any oa n cap l w1 (h.below B1 (Nat.le_refl _)) hn hS
  clear hS
  go_enter Try.func29, Try.ntmps29
  go_wp2_with fail
  go_loopw [3, 4, 7] (fun _ _ s7 wr => ∃ k : Nat, k ≤ n ∧ s7 = .int .i64 k ∧ Below w.heap.size w wr ∧ Hid (∀ i, i + 1 < k → ltS (l.getD i zL).1 (l.getD (i + 1) zL).1 = true)) (fun _ _ s7 _ => n - (intOf s7).toNat)
  case atStart => exact ⟨0, Nat.zero_le _, rfl, Below.refl _ _, fun i hi => absurd hi (by omega)⟩
  case round =>
    obtain ⟨k, hk, rfl, hB, HA⟩ := hrel
    by_cases hlt : k < n
    · obtain ⟨g, o, e, c0, c1⟩ := (h.below hB (Nat.le_refl _)).cell k hlt
      have hB7 := hB.alloc hB.size (.cells #[.string (l.getD k zL).1, .string (l.getD k zL).2] 57)
      by_cases h0 : k = 0
      · subst h0
        subst e
        generalize l.getD 0 zL = x at *
        obtain ⟨s, t⟩ := x
        dsimp only at c0 c1 hB7
        rw [Nat.zero_mul, Nat.add_zero] at c0 c1
        clear h hl HEach
        go_wp2_with fail
        go_quiet (fail)
        go_wp2_with fail
        go_roundw
        case rel => exact ⟨1, by omega, by go_num, belowN hB7 _, fun i hi => absurd hi (by omega)⟩
        case measure => simp [intOf]; omega
      · obtain ⟨j, hj⟩ : ∃ j, k = j + 1 := ⟨k - 1, by omega⟩
        obtain ⟨g', o', e', d0, d1⟩ := (h.below hB (Nat.le_refl _)).cell j (by omega)
        subst e
        cases e'
        have HN : Hid (ltS (l.getD j zL).1 (l.getD k zL).1 = false → riseB l = false) := by rw [hj]; exact riseB_not l j (by omega)
        have HY : Hid (ltS (l.getD j zL).1 (l.getD k zL).1 = true → ∀ i, i + 1 < k + 1 → ltS (l.getD i zL).1 (l.getD (i + 1) zL).1 = true) := fun q i hi => by
          by_cases e : i = j
          · subst e; rw [← hj]; exact q
          · exact HA.out i (by omega)
        have hw1 : IntKind.i64.wrap ((k : Int) - 1) = (j : Int) := by simp [IntKind.wrap, IntKind.bits, IntKind.signed]; omega
        have hj2 : j < n := by omega
        have hk0 : decide (0 < k) = true := by simp; omega
        have d0' : ∀ o, (wr.alloc o).cell? _ = _ := fun o => (((Below.refl _ wr).alloc (Nat.le_refl _) o).cell (World.block_lt_of_cell? _ _ d0)).trans d0
        clear h hl hj HA
        generalize l.getD k zL = x at *
        generalize l.getD j zL = y at *
        obtain ⟨s, t⟩ := x
        obtain ⟨u, v⟩ := y
        dsimp only at c0 c1 d0 d1 hB7 HN HY d0'
        have HU : Hid (ltS u s = Op.bytesLess u.toList s.toList) := rfl
        cases hb : ltS u s with
        | true =>
          have HZ := Lib.hid (HY.out hb)
          have hbl : Op.bytesLess u.toList s.toList = true := by rw [← HU.out, hb]
          clear HN HY HU hb
          go_wp2_with fail
          go_quiet (fail)
          go_wp2_with fail
          go_roundw
          case rel => exact ⟨k + 1, by omega, by go_num, belowN hB7 _, HZ.out⟩
          case measure => simp [intOf]; omega
        | false =>
          have HZ := Lib.hid (HN.out hb)
          have hbl : Op.bytesLess u.toList s.toList = false := by rw [← HU.out, hb]
          clear HN HY HU hb
          go_wp2_with fail
          go_quiet (fail)
          go_wp2_with fail
          go_ret
          exact ⟨retB (by rw [HR.out, HZ.out]; simp), belowN hB7 _⟩
    · obtain rfl : k = n := by omega
      have HF : Hid (riseB l = true) := by
        show _ = _
        rw [riseB_iff]
        exact fun i hi => HA.out i (by omega)
      have HT := HEach _ hB
      clear HA hl h HEach
      go_wp2_with fail
      refine HT.mono ?_
      rintro e w1 ⟨rfl, B1⟩
      go_wp2_with fail
      go_ret
      exact ⟨retB (by rw [HR.out, HF.out]; simp), hB.trans (B1.mono hB.size)⟩
end Go.Proofs.Ytopjiokbmpghjaa
