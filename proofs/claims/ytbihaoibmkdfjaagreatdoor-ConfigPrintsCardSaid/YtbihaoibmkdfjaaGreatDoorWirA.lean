/-
  The document's own: digits as numbers.
-/
import Derived.Test.YtbihaoibmkdfjaaGreatDoorWirZ
namespace Go.Proofs.YtbihaoibmkdfjaaGreatDoor
open Go.RowKit Go.Shelf
set_option linter.unusedVariables false

set_option maxRecDepth 100000 in
set_option maxHeartbeats 1600000 in
theorem refNumber_any (s : ByteArray) (w : World) (hs : s.size ≤ 4611686018427387904) :
    Calls Tryz.prog 69 #[.string s] w fun e w' => NumOut e (bs s) ∧ Below w.heap.size w w' := by
  go_enter Tryz.func69, Tryz.ntmps69
  go_wp2_with fail
  go_loopw [4, 5] (fun s4 s5 wr => ∃ k v : Nat, k ≤ s.size ∧ s5 = .int .i64 k ∧ s4 = .int .i64 (v : Int) ∧ Hid (v = valB ((bs s).take k)) ∧ v ≤ 10995116277770 ∧ Below w.heap.size w wr) (fun _ s5 _ => s.size - (intOf s5).toNat)
  case atStart => exact ⟨0, 0, Nat.zero_le _, rfl, rfl, rfl, by omega, Below.refl _ _⟩
  case round =>
    obtain ⟨k, v, hk, rfl, rfl, HV, hv, hB⟩ := hrel
    by_cases hlt : k < s.size
    · have HS := Lib.hid (valB_step s k hlt)
      have HO : Hid (isD (s[k]'hlt) = false → numB (bs s) = none) := numB_odd (bs_mem s k hlt)
      have HD : Hid (isD (s[k]'hlt) = (decide (48 ≤ (s[k]'hlt).toNat) && decide ((s[k]'hlt).toNat ≤ 57))) := rfl
      have HG : Hid (1099511627776 < v → numB (bs s) = none) := by
        intro h
        rw [HV.out] at h
        refine numB_great (Nat.lt_of_lt_of_le h ?_)
        conv => rhs; rw [← List.take_append_drop k (bs s)]
        exact valB_le _ _
      obtain ⟨c, hc⟩ : ∃ c : Nat, (s[k]'hlt).toNat = c := ⟨_, rfl⟩
      have hc256 : c < 256 := by rw [← hc]; exact UInt8.toNat_lt _
      rw [hc] at HD HS
      by_cases h1 : c < 48
      · have hn := HO.out (by rw [HD.out]; simp; omega)
        have HN := Lib.hid hn
        clear hn
        have d1 : decide (((s[k]'hlt).toNat : Int) < 48) = true := by simp; omega
        go_wp2_with fail
        go_ret2
        exact ⟨.inr ⟨HN.out, _, rfl⟩, hB⟩
      · by_cases h2 : 57 < c
        · have hn := HO.out (by rw [HD.out]; simp; omega)
          have HN := Lib.hid hn
          clear hn
          have d1 : decide (((s[k]'hlt).toNat : Int) < 48) = false := by simp; omega
          have d2 : decide ((57 : Int) < ((s[k]'hlt).toNat : Int)) = true := by simp; omega
          go_wp2_with fail
          go_ret2
          exact ⟨.inr ⟨HN.out, _, rfl⟩, hB⟩
        · have d1 : decide (((s[k]'hlt).toNat : Int) < 48) = false := by simp; omega
          have d2 : decide ((57 : Int) < ((s[k]'hlt).toNat : Int)) = false := by simp; omega
          by_cases h3 : 1099511627776 < v
          · have HN := Lib.hid (HG.out h3)
            go_wp2_with fail
            go_ret2
            exact ⟨.inr ⟨HN.out, _, rfl⟩, hB⟩
          · go_wp2_with fail
            go_roundw
            case rel => exact ⟨k + 1, 10 * v + (c - 48), by omega, by go_num, by rw [show (10 * (v : Int) + ((c : Int) - 48)) = ((10 * v + (c - 48) : Nat) : Int) by omega], by show _ = _; rw [HS.out, ← HV.out], by omega, hB⟩
            case measure => simp [intOf]; omega
    · obtain rfl : k = s.size := by omega
      rw [bs_all] at HV
      have HN : Hid (numB (bs s) = if digsB (valB (bs s)) = bs s ∧ valB (bs s) ≤ topT then some (valB (bs s)) else none) := rfl
      rw [← HV.out] at HN
      by_cases h0 : s.size = 0
      · have HN2 : Hid (numB (bs s) = none) := by show _ = _; rw [bs_empty s h0]; exact numB_empty
        have ae : s.toList.isEmpty = true := by
          have : s = ByteArray.empty := ByteArray.ext (Array.eq_empty_of_size_eq_zero h0)
          rw [this]; simp
        clear HN
        go_wp2_with fail
        go_ret2
        exact ⟨.inr ⟨HN2.out, _, rfl⟩, hB⟩
      · have ae : s.toList.isEmpty = false := by
          cases e : s.toList.isEmpty with
          | false => rfl
          | true =>
            have e2 : s.toList = (⟨#[]⟩ : ByteArray).toList := by rw [List.isEmpty_iff.1 e]; simp
            exact absurd (by rw [toList_inj e2]; rfl) h0
        by_cases h1 : v ≤ 1099511627776
        · have HR := refDigits_any v wr (by omega)
          obtain ⟨b, hb⟩ : ∃ b : Bool, b = true ↔ digsB v = bs s := ⟨decide (digsB v = bs s), by simp⟩
          have hq := bs_beq (tx (digsB v)) s b (by rw [hb]; unfold bs; rw [tx_data])
          have HB := Lib.hid hb
          clear hb
          generalize tx (digsB v) = t at *
          go_wp2_with fail
          refine HR.mono ?_
          rintro e w1 ⟨rfl, B1⟩
          go_wp2_with fail
          go_ret2
          refine ⟨?_, hB.trans (B1.mono hB.size)⟩
          cases b with
          | true =>
            refine .inl ⟨v, ?_, by simp⟩
            rw [HN.out, if_pos ⟨HB.out.1 rfl, h1⟩]
          | false =>
            refine .inr ⟨?_, (v : Int), by simp⟩
            rw [HN.out, if_neg]
            intro e
            exact absurd (HB.out.2 e.1) (by simp)
        · have HN2 : Hid (numB (bs s) = none) := by
            show _ = _
            rw [HN.out, if_neg]
            intro e
            have := e.2
            unfold topT at this
            omega
          clear HN
          go_wp2_with fail
          go_ret2
          exact ⟨.inr ⟨HN2.out, _, rfl⟩, hB⟩
end Go.Proofs.YtbihaoibmkdfjaaGreatDoor
