/-
  The document's own: which routes may be.
-/
import Derived.Test.YtplfmphhmlkejaaRfcD
namespace Go.Proofs.Ytplfmphhmlkejaa
open Go.RowKit Go.Shelf
set_option linter.unusedVariables false

theorem chain_not {n : Nat} {l : List Int} (k : Nat) (hk : k < l.length) (h : l.getD k 0 < 0 ∨ (n : Int) ≤ l.getD k 0 ∨ ∃ j, j < k ∧ l.getD j 0 = l.getD k 0) : chainB n l = false := by
  cases hb : chainB n l with
  | false => rfl
  | true =>
    obtain ⟨h1, h2⟩ := (chainB_iff n l).1 hb k hk
    rcases h with h | h | ⟨j, hj, e⟩
    · omega
    · omega
    · exact absurd e (h2 j hj)
theorem rte_chain {n : Nat} {t : T2} (h : chainB n t.1 = false) : rteR n t = false := by unfold rteR; rw [h]; rfl
set_option maxRecDepth 100000 in
set_option maxHeartbeats 3200000 in
theorem refRoute_any (N : Nat) (pa : Option Addr) (n1 c1 : Nat) (pb : Option Addr) (n2 c2 : Nat) (t : T2) (w : World) (hC : Ns w pa n1 c1 t.1) (hM : Ms w pb n2 c2 t.2) (hn : n1 ≤ 9223372036854775807) (hm : n2 ≤ 9223372036854775807) (hS : ShortM t.2) (hN : N ≤ 9223372036854775807) :
    Calls Try.prog 25 #[.agg #[.slice pa n1 c1, .slice pb n2 c2], .int .i64 (N : Int)] w fun e w' => e = .returned (.bool (rteR N t)) ∧ Below w.heap.size w w' := by
  have hl := hC.len
  have hr := hC.room
  have V0 := Vals.new w 41 #[.slice pa n1 c1, .slice pb n2 c2]
  have B0 := below_alloc w (.cells #[.slice pa n1 c1, .slice pb n2 c2] 41)
  have hC1 := hC.below B0 (Nat.le_refl _)
  have HM := refMatchers_any pb n2 c2 t.2 _ (hM.below B0 (Nat.le_refl _)) (by omega) hS
  have HR : Hid (rteR N t = (chainB N t.1 && (decide (1 ≤ t.1.length) && (decide (t.1.length ≤ 4) && matsB t.2)))) := rfl
  have HF : Hid (chainB N t.1 = false → rteR N t = false) := rte_chain
  clear hC hM hS
  go_enter Try.func25, Try.ntmps25
  go_upto_region 1 with fail
  generalize w.alloc (.cells #[.slice pa n1 c1, .slice pb n2 c2] 41) = w1 at *
  have c0 : w1.cell? ⟨w.heap.size, 0, none⟩ = some (.slice pa n1 c1) := V0.cell 0
  have d0 : w1.cell? ⟨w.heap.size, 1, none⟩ = some (.slice pb n2 c2) := V0.cell 1
  obtain ⟨l, ms⟩ := t
  dsimp only at *
  go_wp2_with fail
  go_loopw [12] (fun s12 wr => ∃ k : Nat, k ≤ n1 ∧ s12 = .int .i64 k ∧ w1 = wr ∧ Hid (∀ i, i < k → (0 ≤ l.getD i 0 ∧ l.getD i 0 < (N : Int)) ∧ ∀ j, j < i → l.getD j 0 ≠ l.getD i 0)) (fun s12 _ => n1 - (intOf s12).toNat)
  case atStart => exact ⟨0, Nat.zero_le _, rfl, rfl, fun i hi => absurd hi (by omega)⟩
  case round =>
    obtain ⟨k, hk, rfl, rfl, HA⟩ := hrel
    by_cases hlt : k < n1
    · obtain ⟨g, o, rfl, e0⟩ := hC1.cell k hlt
      have HX : Hid (l.getD k 0 < 0 ∨ (N : Int) ≤ l.getD k 0 ∨ (∃ j, j < k ∧ l.getD j 0 = l.getD k 0) → rteR N (l, ms) = false) := fun h => HF.out (chain_not k (by omega) h)
      have HY : Hid (0 ≤ l.getD k 0 → l.getD k 0 < (N : Int) → (∀ j, j < k → l.getD j 0 ≠ l.getD k 0) → ∀ i, i < k + 1 → (0 ≤ l.getD i 0 ∧ l.getD i 0 < (N : Int)) ∧ ∀ j, j < i → l.getD j 0 ≠ l.getD i 0) := fun h1 h2 h3 i hi => by
        by_cases e : i = k
        · subst e; exact ⟨⟨h1, h2⟩, h3⟩
        · exact HA.out i (by omega)
      clear HA
      obtain ⟨v, hv⟩ : ∃ v, v = l.getD k 0 := ⟨_, rfl⟩
      rw [← hv] at e0 HX HY
      clear hv
      by_cases h0 : v < 0
      · have HW := Lib.hid (HX.out (.inl h0))
        clear HX HY
        go_wp2_with fail
        go_ret
        exact ⟨retB HW.out.symm, B0⟩
      by_cases h1 : (N : Int) ≤ v
      · have HW := Lib.hid (HX.out (.inr (.inl h1)))
        clear HX HY
        go_wp2_with fail
        go_ret
        exact ⟨retB HW.out.symm, B0⟩
      have HZ := Lib.hid (HY.out (by omega) (by omega))
      clear HY
      go_wp2_with fail
      go_loopw [29] (fun s29 wx => ∃ j : Nat, j ≤ k ∧ s29 = .int .i64 j ∧ w1 = wx ∧ Hid (∀ i, i < j → l.getD i 0 ≠ v)) (fun s29 _ => k - (intOf s29).toNat)
      case atStart => exact ⟨0, Nat.zero_le _, rfl, rfl, fun i hi => absurd hi (by omega)⟩
      case round =>
        obtain ⟨j, hj, rfl, rfl, HJ⟩ := hrel
        by_cases hjk : j < k
        · obtain ⟨g', o', hgo, f0⟩ := hC1.cell j (by omega)
          cases hgo
          have HQ : Hid (l.getD j 0 = v → rteR N (l, ms) = false) := fun e => HX.out (.inr (.inr ⟨j, hjk, e⟩))
          have HP : Hid (l.getD j 0 ≠ v → ∀ i, i < j + 1 → l.getD i 0 ≠ v) := fun e i hi => by
            by_cases e2 : i = j
            · subst e2; exact e
            · exact HJ.out i (by omega)
          generalize l.getD j 0 = u at *
          clear HX HZ HJ
          by_cases he : u = v
          · have HW := Lib.hid (HQ.out he)
            have hq : (u == v) = true := by simp [he]
            clear HQ HP
            subst he
            go_wp2_with fail
            go_ret
            exact ⟨retB HW.out.symm, B0⟩
          · have HW := Lib.hid (HP.out he)
            have hq : (u == v) = false := by simp [he]
            clear HQ HP
            go_wp2_with fail
            go_roundw
            case rel => exact ⟨j + 1, by omega, by go_num, trivial, HW⟩
            case measure => simp [intOf]; omega
        · obtain rfl : j = k := by omega
          have HW := Lib.hid (HZ.out HJ.out)
          clear HX HZ HJ
          go_wp2_with fail
          go_roundw
          case rel => exact ⟨j + 1, by omega, by go_num, trivial, HW⟩
          case measure => simp [intOf]; omega
    · obtain rfl : k = n1 := by omega
      have HT : Hid (chainB N l = true) := (chainB_iff N l).2 fun i hi => HA.out i (by omega)
      have HE : Hid (rteR N (l, ms) = (decide (1 ≤ k) && (decide (k ≤ 4) && matsB ms))) := by
        show _ = _
        rw [HR.out, HT.out, hl]
        rfl
      clear HA HT HR HF hC1
      by_cases h1 : 1 ≤ k
      · by_cases h4 : k ≤ 4
        · go_wp2_with fail
          refine HM.mono ?_
          rintro e w2 ⟨rfl, B2⟩
          go_wp2_with fail
          go_ret
          exact ⟨retB (by rw [HE.out, decide_eq_true h1, decide_eq_true h4]; rfl), B0.trans (B2.mono B0.size)⟩
        · go_wp2_with fail
          go_ret
          exact ⟨retB (by rw [HE.out, decide_eq_false h4]; simp), B0⟩
      · go_wp2_with fail
        go_ret
        exact ⟨retB (by rw [HE.out, decide_eq_false h1]; simp), B0⟩
end Go.Proofs.Ytplfmphhmlkejaa
