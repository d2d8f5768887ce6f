/-
  The document's own answers: which matchers may be, whether they match.
-/
import Derived.Test.YtplfmphhmlkejaaLabT
import Derived.Test.YtplfmphhmlkejaaRefMats
import Derived.Test.YtplfmphhmlkejaaLabA
import Derived.Test.YtplfmphhmlkejaaLabQ
namespace Go.Proofs.Ytplfmphhmlkejaa
open Go.RowKit Go.Shelf
set_option linter.unusedVariables false


/-- whether one matches, by the first label of its name -/
def refM1 (m : M3) (x : L2) : Bool := if m.1 ≤ 1 then (sameS x.2 m.2.2 == decide (m.1 = 0)) else (decide (m.1 = 3) || Lib.hasPrefix x.2.data.toList m.2.2.data.toList)
def refM (l : List L2) (m : M3) : Bool := match l.find? (namedB m.2.1) with
  | none => decide (m.1 = 1)
  | some x => refM1 m x
theorem find_hitL (p : L2 → Bool) : ∀ (l : List L2) (k : Nat), k < l.length → (l.take k).any p = false → p (l.getD k zL) = true → l.find? p = some (l.getD k zL)
  | [], k, hk, _, _ => absurd hk (by simp)
  | x :: l, 0, _, _, h => by
    rw [List.getD_cons_zero] at h ⊢
    rw [List.find?_cons, h]
  | x :: l, k + 1, hk, ha, h => by
    rw [List.take_succ_cons, List.any_cons, Bool.or_eq_false_iff] at ha
    rw [List.getD_cons_succ] at h ⊢
    rw [List.find?_cons, ha.1]
    exact find_hitL p l k (by simpa using hk) ha.2 h
theorem find_missL (p : L2 → Bool) (l : List L2) (h : l.any p = false) : l.find? p = none := by
  rw [List.find?_eq_none]
  exact List.any_eq_false.1 h
theorem prefix_is (s p : ByteArray) : Lib.hasPrefix s.data.toList p.data.toList = (decide (p.size ≤ s.size) && ((s.extract 0 p.size).toList == p.toList)) := by
  rw [← Lib.hasPrefix_of_take, ← Lib.size_eq, ← Lib.size_eq, Lib.extract_toList, Lib.toList_data]
  simp
set_option maxRecDepth 100000 in
set_option maxHeartbeats 4000000 in
theorem refMatch_any (m : M3) (hm : 0 ≤ m.1 ∧ m.1 ≤ 3) (oa : Option Addr) (n cap : Nat) (l : List L2) (w : World) (h : Ls w oa n cap l) (hn : n ≤ 4611686018427387904) :
    Calls Try.prog 43 #[aggM m, .slice oa n cap] w fun e w' => e = .returned (.bool (refM l m)) ∧ Below w.heap.size w w' := by
  obtain ⟨q, a, b⟩ := m
  have hl := h.len
  have hr := h.room
  dsimp only [aggM] at *
  have HN : Hid (∀ k, k < l.length → (l.take k).any (namedB a) = false → namedB a (l.getD k zL) = true → refM l (q, a, b) = refM1 (q, a, b) (l.getD k zL)) := fun k hk h1 h2 => by
    unfold refM
    rw [find_hitL _ l k hk h1 h2]
  have HZ : Hid (l.any (namedB a) = false → refM l (q, a, b) = decide (q = 1)) := fun h => by
    unfold refM
    rw [find_missL _ l h]
  have HR : Hid (∀ x, refM1 (q, a, b) x = if q ≤ 1 then (sameS x.2 b == decide (q = 0)) else (decide (q = 3) || (decide (b.size ≤ x.2.size) && ((x.2.extract 0 b.size).toList == b.toList)))) := fun x => by
    unfold refM1
    rw [prefix_is]
  have HB : Hid (∀ x, namedB a x = (x.1.toList == a.toList)) := fun x => rfl
  have HC : Hid (∀ x, sameS x b = (x.toList == b.toList)) := fun x => rfl
  go_enter Try.func43, Try.ntmps43
  go_wp2_with fail
  obtain ⟨w4, hw4⟩ : ∃ w4, w4 = w.alloc (.cells #[.int .i64 q, .string a, .string b] 49) := ⟨_, rfl⟩
  have B0 : Below w.heap.size w w4 := by subst hw4; exact (Below.refl _ w).alloc (Nat.le_refl _) _
  have m0 : w4.cell? ⟨w.heap.size, 0, none⟩ = some (.int .i64 q) := by subst hw4; simp
  have m1 : w4.cell? ⟨w.heap.size, 1, none⟩ = some (.string a) := by subst hw4; simp
  have m2 : w4.cell? ⟨w.heap.size, 2, none⟩ = some (.string b) := by subst hw4; simp
  have hs4 : w4.heap.size = w.heap.size + 1 := by subst hw4; simp
  rw [← hw4]
  clear hw4
  go_loopw [6, 10] (fun _ s10 wr => ∃ k : Nat, k ≤ n ∧ s10 = .int .i64 k ∧ Below w.heap.size w wr ∧ Below w4.heap.size w4 wr ∧ Hid ((l.take k).any (namedB a) = false)) (fun _ s10 _ => n - (intOf s10).toNat)
  case atStart => exact ⟨0, Nat.zero_le _, rfl, B0, Below.refl _ _, by show _ = _; simp⟩
  case round =>
    obtain ⟨k, hk, rfl, hB, hB4, HA⟩ := hrel
    have p0 := (hB4.cell (p := ⟨w.heap.size, 0, none⟩) (show w.heap.size < _ by omega)).trans m0
    have p1 := (hB4.cell (p := ⟨w.heap.size, 1, none⟩) (show w.heap.size < _ by omega)).trans m1
    have p2 := (hB4.cell (p := ⟨w.heap.size, 2, none⟩) (show w.heap.size < _ by omega)).trans m2
    by_cases hlt : k < n
    · obtain ⟨g, o, rfl, c0, c1⟩ := (h.below hB (Nat.le_refl _)).cell k hlt
      have HX := Lib.hid (any_next (namedB a) l k (by omega) HA.out)
      have HH := Lib.hid (HN.out k (by omega) HA.out)
      generalize l.getD k zL = x at *
      obtain ⟨s, t⟩ := x
      dsimp only at c0 c1
      have hB7 := hB.alloc hB.size (.cells #[.string s, .string t] 55)
      have hB8 := hB4.alloc hB4.size (.cells #[.string s, .string t] 55)
      have p0' := fun o => (((Below.refl _ wr).alloc (Nat.le_refl _) o).cell (World.block_lt_of_cell? _ _ p0)).trans p0
      have p1' := fun o => (((Below.refl _ wr).alloc (Nat.le_refl _) o).cell (World.block_lt_of_cell? _ _ p1)).trans p1
      have p2' := fun o => (((Below.refl _ wr).alloc (Nat.le_refl _) o).cell (World.block_lt_of_cell? _ _ p2)).trans p2
      clear m0 m1 m2 p0 p1 p2
      cases hb : namedB a (s, t) with
      | false =>
        have hne : (s.toList == a.toList) = false := by rw [← HB.out (s, t), hb]
        have HY := Lib.hid (HX.out hb)
        clear HX HH hb h hl HN HZ HA
        go_wp2_with fail
        go_roundw
        case rel => exact ⟨k + 1, by omega, by go_num, hB7, hB8, HY.out⟩
        case measure => simp [intOf]; omega
      | true =>
        have hne : (s.toList == a.toList) = true := by rw [← HB.out (s, t), hb]
        have HY := Lib.hid ((HH.out hb).trans (HR.out (s, t)))
        dsimp only at HY
        rw [HC.out] at HY
        clear HX HH hb h hl HN HZ HA HB HC HR
        by_cases hq : q ≤ 1
        · rcases (show q = 0 ∨ q = 1 by omega) with rfl | rfl
          all_goals
            go_wp2_with fail
            go_ret
            refine ⟨retB ?_, hB7⟩
            rw [HY.out]
            simp
        · rcases (show q = 2 ∨ q = 3 by omega) with rfl | rfl
          · by_cases hz : b.size ≤ t.size
            · go_wp2_with fail
              go_quiet (fail)
              go_wp2_with fail
              go_ret
              refine ⟨retB ?_, belowN hB7 _⟩
              rw [HY.out]
              simp [hz]
            · go_wp2_with fail
              go_quiet (fail)
              go_wp2_with fail
              go_ret
              refine ⟨retB ?_, belowN hB7 _⟩
              rw [HY.out]
              simp [hz]
          · go_wp2_with fail
            go_quiet (fail)
            go_wp2_with fail
            go_ret
            refine ⟨retB ?_, belowN hB7 _⟩
            rw [HY.out]
            simp
    · obtain rfl : k = n := by omega
      have HF : Hid (refM l (q, a, b) = decide (q = 1)) := by
        have h := HA.out
        rw [List.take_of_length_le (by omega)] at h
        exact HZ.out h
      clear HA hl h HN HZ HR
      go_wp2_with fail
      go_ret
      exact ⟨retB (by rw [HF.out, Bool.eq_iff_iff]; simp), hB⟩
end Go.Proofs.Ytplfmphhmlkejaa
