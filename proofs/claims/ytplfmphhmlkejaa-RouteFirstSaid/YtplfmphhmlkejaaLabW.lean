/-
  The document's own answers: whether all match; the same rows.
-/
import Derived.Test.YtplfmphhmlkejaaLabU
namespace Go.Proofs.Ytplfmphhmlkejaa
open Go.RowKit Go.Shelf
set_option linter.unusedVariables false

theorem sameS_iff (a b : ByteArray) : sameS a b = true ↔ a = b := by
  unfold sameS
  rw [beq_iff_eq]
  exact ⟨fun h => toList_inj h, fun h => by rw [h]⟩
theorem strict_find {l : List L2} (hs : Strict l) (a : ByteArray) (x : L2) (hx : x ∈ l) (hn : x.1 = a) : ∀ y ∈ l, y.1 = a → y = x := by
  induction l with
  | nil => cases hx
  | cons z l ih =>
    have h := List.pairwise_cons.1 hs
    intro y hy hya
    rcases List.mem_cons.1 hx with rfl | hx'
    · rcases List.mem_cons.1 hy with rfl | hy
      · rfl
      · have := h.1 y hy
        rw [hn, hya, ltS_irrefl] at this
        cases this
    · rcases List.mem_cons.1 hy with rfl | hy
      · have := h.1 x hx'
        rw [hn, hya, ltS_irrefl] at this
        cases this
      · exact ih h.2 hx' y hy hya
/-- of labels that rise, one alone may have a name -/
theorem refM_is {l : List L2} {m : M3} (hr : Strict l) (hm : 0 ≤ m.1 ∧ m.1 ≤ 3) : refM l m = mB l m := by
  obtain ⟨q, a, b⟩ := m
  dsimp only at hm
  unfold refM mB
  dsimp only
  cases hf : l.find? (namedB a) with
  | none =>
    have hno : ∀ x ∈ l, namedB a x = false := by
      intro x hx
      have := List.find?_eq_none.1 hf x hx
      simpa using this
    have e1 : l.any (theB a b) = false := by
      rw [List.any_eq_false]
      intro x hx h
      unfold theB at h
      simp only [Bool.and_eq_true] at h
      have := hno x hx
      unfold namedB at this
      rw [(sameS_iff _ _).2 ((sameS_iff _ _).1 h.1).symm] at this
      cases this
    have e2 : l.any (beginsB a b) = false := by
      rw [List.any_eq_false]
      intro x hx h
      unfold beginsB at h
      simp only [Bool.and_eq_true] at h
      have := hno x hx
      unfold namedB at this
      rw [h.1] at this
      cases this
    have e3 : l.any (namedB a) = false := by
      rw [List.any_eq_false]
      intro x hx h
      rw [hno x hx] at h
      cases h
    rw [e1, e2, e3]
    rcases (show q = 0 ∨ q = 1 ∨ q = 2 ∨ q = 3 by omega) with rfl | rfl | rfl | rfl <;> rfl
  | some x =>
    have hx : x ∈ l := List.mem_of_find?_eq_some hf
    have hxn : namedB a x = true := List.find?_some hf
    have hxa : x.1 = a := (sameS_iff _ _).1 hxn
    have huni := strict_find hr a x hx hxa
    have e1 : l.any (theB a b) = sameS x.2 b := by
      rw [Bool.eq_iff_iff, List.any_eq_true, sameS_iff]
      constructor
      · rintro ⟨y, hy, h⟩
        unfold theB at h
        simp only [Bool.and_eq_true, sameS_iff] at h
        have := huni y hy h.1.symm
        subst this
        exact h.2.symm
      · intro h
        refine ⟨x, hx, ?_⟩
        unfold theB
        simp only [Bool.and_eq_true, sameS_iff]
        exact ⟨hxa.symm, h.symm⟩
    have e2 : l.any (beginsB a b) = Lib.hasPrefix x.2.data.toList b.data.toList := by
      rw [Bool.eq_iff_iff, List.any_eq_true]
      constructor
      · rintro ⟨y, hy, h⟩
        unfold beginsB at h
        simp only [Bool.and_eq_true, sameS_iff] at h
        have := huni y hy h.1
        subst this
        exact h.2
      · intro h
        refine ⟨x, hx, ?_⟩
        unfold beginsB
        simp only [Bool.and_eq_true, sameS_iff]
        exact ⟨hxa, h⟩
    have e3 : l.any (namedB a) = true := List.any_eq_true.2 ⟨x, hx, hxn⟩
    rw [e1, e2, e3]
    unfold refM1
    dsimp only
    generalize sameS x.2 b = r
    generalize Lib.hasPrefix x.2.data.toList b.data.toList = r2
    rcases (show q = 0 ∨ q = 1 ∨ q = 2 ∨ q = 3 by omega) with rfl | rfl | rfl | rfl <;> cases r <;> cases r2 <;> rfl
theorem right_strict {l : List L2} (h : rightB l = true) : Strict l := by
  unfold rightB at h
  simp only [Bool.and_eq_true] at h
  exact (riseB_strict l).1 h.2
theorem refAll_is {l : List L2} {ms : List M3} (hr : rightB l = true) (hm : matsB ms = true) : ms.all (refM l) = ms.all (mB l) := by
  have : ∀ m ∈ ms, refM l m = mB l m := by
    intro m hmem
    refine refM_is (right_strict hr) (matB_kind ?_)
    unfold matsB at hm
    simp only [Bool.and_eq_true, Bool.not_eq_true', decide_eq_true_eq] at hm
    have := List.any_eq_false.1 hm.2 m hmem
    simpa using this
  rw [Bool.eq_iff_iff, List.all_eq_true, List.all_eq_true]
  exact ⟨fun h m hm => this m hm ▸ h m hm, fun h m hm => (this m hm).symm ▸ h m hm⟩
set_option maxRecDepth 100000 in
set_option maxHeartbeats 1600000 in
theorem refAll_any (om : Option Addr) (nm cm : Nat) (ms : List M3) (oa : Option Addr) (n cap : Nat) (l : List L2) (w : World) (hM : Ms w om nm cm ms) (h : Ls w oa n cap l) (hn : n ≤ 4611686018427387904) (hnm : nm ≤ 9223372036854775807) (hk : ∀ k, k < ms.length → 0 ≤ (ms.getD k zM).1 ∧ (ms.getD k zM).1 ≤ 3) :
    Calls Try.prog 28 #[.slice om nm cm, .slice oa n cap] w fun e w' => e = .returned (.bool (ms.all (refM l))) ∧ Below w.heap.size w w' := by
  have hl := hM.len
  have hr := hM.room
  have HK := Lib.hid hk
  clear hk
  go_enter Try.func28, Try.ntmps28
  go_wp2_with fail
  go_loopw [6, 9] (fun _ s9 wr => ∃ k : Nat, k ≤ nm ∧ s9 = .int .i64 k ∧ Below w.heap.size w wr ∧ Hid ((ms.take k).all (refM l) = true)) (fun _ s9 _ => nm - (intOf s9).toNat)
  case atStart => exact ⟨0, Nat.zero_le _, rfl, Below.refl _ _, by show _ = _; simp⟩
  case round =>
    obtain ⟨k, hk, rfl, hB, HA⟩ := hrel
    by_cases hlt : k < nm
    · obtain ⟨g, o, rfl, c0, c1, c2⟩ := (hM.below hB (Nat.le_refl _)).cell k hlt
      have HX := Lib.hid (all_next (refM l) ms k (by omega) HA.out)
      have HN := Lib.hid (all_hit (refM l) ms k (by omega))
      have hkk := HK.out k (by omega)
      generalize ms.getD k zM = x at *
      obtain ⟨q, s, t⟩ := x
      dsimp only at c0 c1 c2 hkk
      have hB7 := hB.alloc hB.size (.cells #[.int .i64 q, .string s, .string t] 49)
      have HT := refMatch_any (q, s, t) hkk oa n cap l _ (h.below hB7 (Nat.le_refl _)) hn
      dsimp only [aggM] at HT
      clear hkk
      cases hb : refM l (q, s, t) with
      | true =>
        rw [hb] at HT
        have HY := Lib.hid (HX.out hb)
        clear HX HN hb h hl hM
        go_wp2_with fail
        refine HT.mono ?_
        rintro e w1 ⟨rfl, B1⟩
        go_wp2_with fail
        go_roundw
        case rel => exact ⟨k + 1, by omega, by go_num, hB7.trans (B1.mono hB7.size), HY.out⟩
        case measure => simp [intOf]; omega
      | false =>
        rw [hb] at HT
        have HY := Lib.hid (HN.out hb)
        clear HX HN hb h hl hM
        go_wp2_with fail
        refine HT.mono ?_
        rintro e w1 ⟨rfl, B1⟩
        go_wp2_with fail
        go_ret
        exact ⟨retB HY.out.symm, hB7.trans (B1.mono hB7.size)⟩
    · obtain rfl : k = nm := by omega
      have HF : Hid (ms.all (refM l) = true) := by
        have h := HA.out
        rw [List.take_of_length_le (by omega)] at h
        exact h
      clear HA hl h hM
      go_wp2_with fail
      go_ret
      exact ⟨retB HF.out.symm, hB⟩
end Go.Proofs.Ytplfmphhmlkejaa
