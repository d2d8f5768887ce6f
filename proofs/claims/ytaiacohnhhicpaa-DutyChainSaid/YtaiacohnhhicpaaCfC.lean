/-
  The program's own: which routes may be (package config).
-/
import Derived.Test.YtaiacohnhhicpaaCfB
import Derived.Test.YtaiacohnhhicpaaMatF
namespace Go.Proofs.Ytaiacohnhhicpaa
open Go.RowKit Go.Shelf
set_option linter.unusedVariables false

/-- where a number stands, or -1 -/
def posI (l : List Int) (x : Int) : Int := match l.findIdx? fun r => decide (r = x) with
  | some k => (k : Int)
  | none => -1
theorem posI_hit {l : List Int} {x : Int} (k : Nat) (hk : k < l.length) (hA : ∀ i, i < k → l.getD i 0 ≠ x) (h : l.getD k 0 = x) : posI l x = (k : Int) := by
  have e : (l.findIdx? fun r => decide (r = x)) = some k := by
    rw [List.findIdx?_eq_some_iff_getElem]
    refine ⟨hk, by simp only [decide_eq_true_eq]; rw [← getD_at l k hk]; exact h, fun j hj => ?_⟩
    have := hA j hj
    rw [getD_at l j (by omega)] at this
    simpa using this
  unfold posI
  rw [e]
theorem posI_none {l : List Int} {x : Int} (hA : ∀ i, i < l.length → l.getD i 0 ≠ x) : posI l x = -1 := by
  have e : (l.findIdx? fun r => decide (r = x)) = none := by
    rw [List.findIdx?_eq_none_iff]
    intro y hy
    obtain ⟨i, hi, rfl⟩ := List.getElem_of_mem hy
    have := hA i hi
    rw [getD_at l i hi] at this
    simpa using this
  unfold posI
  rw [e]
theorem posI_first {l : List Int} {k : Nat} (hk : k < l.length) : posI l (l.getD k 0) = (k : Int) ↔ ∀ j, j < k → l.getD j 0 ≠ l.getD k 0 := by
  constructor
  · intro hp j hj e
    unfold posI at hp
    cases hf : l.findIdx? fun r => decide (r = l.getD k 0) with
    | none => rw [hf] at hp; simp at hp
    | some i =>
      rw [hf] at hp
      have hi : i = k := by
        have h2 : (i : Int) = (k : Int) := by simpa using hp
        omega
      subst hi
      rw [List.findIdx?_eq_some_iff_getElem] at hf
      obtain ⟨_, _, h3⟩ := hf
      have := h3 j hj
      rw [← getD_at l j (by omega)] at this
      exact this (by simpa using e)
  · exact fun h => posI_hit k hk h rfl
set_option maxRecDepth 100000 in
set_option maxHeartbeats 1600000 in
theorem idxI_c (x : Int) (oa : Option Addr) (n cap : Nat) (l : List Int) (w : World) (h : Ns w oa n cap l) (hn : n ≤ 9223372036854775807) :
    Calls Try.prog 96 #[.slice oa n cap, .int .i64 x] w fun e w' => e = .returned (.int .i64 (posI l x)) ∧ w = w' := by
  have HL := Lib.hid h.len
  have hr := h.room
  go_enter Try.func96, Try.ntmps96
  go_wp2_with fail
  go_loopw [5, 8] (fun _ s8 wr => ∃ k : Nat, k ≤ n ∧ s8 = .int .i64 k ∧ w = wr ∧ Hid (∀ i, i < k → l.getD i 0 ≠ x)) (fun _ s8 _ => n - (intOf s8).toNat)
  case atStart => exact ⟨0, Nat.zero_le _, rfl, rfl, fun i hi => absurd hi (by omega)⟩
  case round =>
    obtain ⟨k, hk, rfl, rfl, HA⟩ := hrel
    by_cases hlt : k < n
    · obtain ⟨g, o, rfl, c0⟩ := h.cell k hlt
      have HH : Hid (l.getD k 0 = x → posI l x = (k : Int)) := fun e => posI_hit k (by rw [HL.out]; exact hlt) HA.out e
      have HQ : Hid (l.getD k 0 ≠ x → ∀ i, i < k + 1 → l.getD i 0 ≠ x) := fun e i hi => by
        by_cases e2 : i = k
        · subst e2; exact e
        · exact HA.out i (by omega)
      generalize l.getD k 0 = y at *
      clear h HA
      by_cases he : y = x
      · have HX := Lib.hid (HH.out he)
        have hq : (x == y) = true := by simp [he]
        clear HH HQ he
        go_wp2_with fail
        go_ret
        exact ⟨retI HX.out.symm, rfl⟩
      · have HX := Lib.hid (HQ.out he)
        have hq : (x == y) = false := by simp [Ne.symm he]
        clear HH HQ he
        go_wp2_with fail
        go_roundw
        case rel => exact ⟨k + 1, by omega, by go_num, trivial, HX⟩
        case measure => simp [intOf]; omega
    · obtain rfl : k = n := by omega
      have HX := Lib.hid (posI_none (l := l) (x := x) (fun i hi => HA.out i (by rw [HL.out] at hi; exact hi)))
      clear h HA
      go_wp2_with fail
      go_ret
      exact ⟨retI HX.out.symm, rfl⟩
def chB (N : Nat) (l : List Int) : Bool := numberB l.length && chainB N l
theorem chB_iff (N : Nat) (l : List Int) : chB N l = true ↔ numberB l.length = true ∧ ∀ i, i < l.length → inC (l.getD i 0) 0 ((N : Int) - 1) = true ∧ posI l (l.getD i 0) = (i : Int) := by
  unfold chB
  rw [Bool.and_eq_true, chainB_iff]
  have e : ∀ x : Int, inC x 0 ((N : Int) - 1) = true ↔ 0 ≤ x ∧ x < (N : Int) := fun x => by
    unfold inC
    simp only [Bool.and_eq_true, decide_eq_true_eq]
    omega
  constructor
  · rintro ⟨h1, h2⟩
    exact ⟨h1, fun i hi => ⟨(e _).2 (h2 i hi).1, (posI_first hi).2 (h2 i hi).2⟩⟩
  · rintro ⟨h1, h2⟩
    exact ⟨h1, fun i hi => ⟨(e _).1 (h2 i hi).1, (posI_first hi).1 (h2 i hi).2⟩⟩
set_option maxRecDepth 100000 in
set_option maxHeartbeats 3200000 in
theorem chain_c (N : Nat) (oa : Option Addr) (n cap : Nat) (l : List Int) (w : World) (h : Ns w oa n cap l) (hn : n ≤ 9223372036854775807) (hN : N ≤ 9223372036854775807) :
    Calls Try.prog 82 #[.slice oa n cap, .int .i64 (N : Int)] w fun e w' => e = .returned (.bool (chB N l)) ∧ w = w' := by
  have HL := Lib.hid h.len
  have hr := h.room
  have HI := Lib.hid (chB_iff N l)
  have HW := fun r w (hr : r = inC (n : Int) 1 4) => within_ci n 1 4 r w hr
  have hnb := number_in n
  cases hb : numberB n with
  | false =>
    have HF : Hid (chB N l = false) := by
      show _ = _
      unfold chB
      rw [HL.out, hb]
      rfl
    have HQ := fun w => HW false w (by rw [← hnb, hb])
    clear HI HW hnb hb h
    go_enter Try.func82, Try.ntmps82
    go_wp2_with fail
    refine (HQ _).mono ?_
    rintro e w2 ⟨rfl, rfl⟩
    go_wp2_with fail
    go_ret
    exact ⟨retB HF.out.symm, rfl⟩
  | true =>
    have HQ := fun w => HW true w (by rw [← hnb, hb])
    have HT : Hid ((∀ i, i < n → inC (l.getD i 0) 0 ((N : Int) - 1) = true ∧ posI l (l.getD i 0) = (i : Int)) → chB N l = true) := fun h => HI.out.2 ⟨by rw [HL.out, hb], fun i hi => h i (by rw [← HL.out]; exact hi)⟩
    have HF : Hid (∀ k, k < n → (inC (l.getD k 0) 0 ((N : Int) - 1) = false ∨ posI l (l.getD k 0) ≠ (k : Int)) → chB N l = false) := fun k hk h => by
      cases hb2 : chB N l with
      | false => rfl
      | true =>
        have := (HI.out.1 hb2).2 k (by rw [HL.out]; exact hk)
        rcases h with h | h
        · rw [h] at this; exact absurd this.1 (by simp)
        · exact absurd this.2 h
    clear HI HW hnb hb
    go_enter Try.func82, Try.ntmps82
    go_wp2_with fail
    refine (HQ _).mono ?_
    rintro e w2 ⟨rfl, rfl⟩
    clear HQ
    go_wp2_with fail
    go_loopw [13] (fun s13 wr => ∃ k : Nat, k ≤ n ∧ s13 = .int .i64 k ∧ w = wr ∧ Hid (∀ i, i < k → inC (l.getD i 0) 0 ((N : Int) - 1) = true ∧ posI l (l.getD i 0) = (i : Int))) (fun s13 _ => n - (intOf s13).toNat)
    case atStart => exact ⟨0, Nat.zero_le _, rfl, rfl, fun i hi => absurd hi (by omega)⟩
    case round =>
      obtain ⟨k, hk, rfl, rfl, HA⟩ := hrel
      by_cases hlt : k < n
      · obtain ⟨g, o, rfl, c0⟩ := h.cell k hlt
        have HNo := Lib.hid (HF.out k hlt)
        have HYes : Hid (inC (l.getD k 0) 0 ((N : Int) - 1) = true → posI l (l.getD k 0) = (k : Int) → ∀ i, i < k + 1 → inC (l.getD i 0) 0 ((N : Int) - 1) = true ∧ posI l (l.getD i 0) = (i : Int)) := fun h1 h2 i hi => by
          by_cases e : i = k
          · subst e; exact ⟨h1, h2⟩
          · exact HA.out i (by omega)
        have HPl := idxI_c (l.getD k 0) (some ⟨g, o, none⟩) n cap l w h hn
        clear HA HF h
        obtain ⟨rr, hrr⟩ : ∃ rr, rr = inC (l.getD k 0) 0 ((N : Int) - 1) := ⟨_, rfl⟩
        obtain ⟨P, hP⟩ : ∃ P, P = posI l (l.getD k 0) := ⟨_, rfl⟩
        simp only [← hrr] at HNo HYes
        simp only [← hP] at HPl HNo HYes
        clear hP
        generalize l.getD k 0 = v at *
        have HWi := fun w => within_ci v 0 ((N : Int) - 1) rr w hrr
        clear hrr
        cases rr with
        | false =>
          have HX := Lib.hid (HNo.out (.inl (by first | rfl | trivial)))
          clear HNo HYes HPl
          go_wp2_with fail
          refine (HWi _).mono ?_
          rintro e w4 ⟨rfl, rfl⟩
          go_wp2_with fail
          go_ret
          exact ⟨retB HX.out.symm, rfl⟩
        | true =>
          by_cases hp : P = (k : Int)
          · have HX := Lib.hid (HYes.out (by first | rfl | trivial) hp)
            have hq : (P != (k : Int)) = false := by simp [hp]
            clear HNo HYes hp
            go_wp2_with fail
            refine (HWi _).mono ?_
            rintro e w4 ⟨rfl, rfl⟩
            go_wp2_with fail
            refine HPl.mono ?_
            rintro e w6 ⟨rfl, rfl⟩
            go_wp2_with fail
            go_roundw
            case rel => exact ⟨k + 1, by omega, by go_num, trivial, HX⟩
            case measure => simp [intOf]; omega
          · have HX := Lib.hid (HNo.out (.inr hp))
            have hq : (P != (k : Int)) = true := by simp [hp]
            clear HNo HYes hp
            go_wp2_with fail
            refine (HWi _).mono ?_
            rintro e w4 ⟨rfl, rfl⟩
            go_wp2_with fail
            refine HPl.mono ?_
            rintro e w6 ⟨rfl, rfl⟩
            go_wp2_with fail
            go_ret
            exact ⟨retB HX.out.symm, rfl⟩
      · obtain rfl : k = n := by omega
        have HX := Lib.hid (HT.out HA.out)
        clear h HA HF HT
        go_wp2_with fail
        go_ret
        exact ⟨retB HX.out.symm, rfl⟩
set_option maxRecDepth 100000 in
set_option maxHeartbeats 800000 in
theorem noMat_c (m : M3) (w : World) :
    Calls Try.prog 84 #[aggM m] w fun e w' => e = .returned (.bool (!matB m)) ∧ Below w.heap.size w w' := by
  obtain ⟨k, s, t⟩ := m
  have hB := fun o => (Below.refl _ w).alloc (Nat.le_refl w.heap.size) o
  have HT := fun w => mat_any (k, s, t) w
  dsimp only [aggM] at *
  generalize matB (k, s, t) = b at *
  go_enter Try.func84, Try.ntmps84
  go_wp2_with fail
  refine (HT _).mono ?_
  rintro e w1 ⟨rfl, B1⟩
  go_wp2_with fail
  go_ret
  exact ⟨rfl, (hB _).trans (B1.mono (by simp))⟩
theorem enter_noMatC : ∀ args w, (callFunc 84 args).run Try.prog w = .ok (.enter 84 args) w := enters_of Try.func84 (by kernel_rfl) rfl
theorem tells_noMatC (w : World) : TellsM w 84 #[] (fun m => !matB m) := fun x b W hb _ => by subst hb; exact noMat_c x W
theorem rteR_is (N : Nat) (t : T2) : rteR N t = (chB N t.1 && (decide (t.2.length ≤ 4) && !t.2.any fun m => !matB m)) := by
  unfold rteR chB numberB matsB
  rw [Bool.eq_iff_iff]
  simp only [Bool.and_eq_true, decide_eq_true_eq]
  constructor
  · rintro ⟨h1, h2, h3, h4, h5⟩
    exact ⟨⟨⟨h2, h3⟩, h1⟩, h4, h5⟩
  · rintro ⟨⟨⟨h2, h3⟩, h1⟩, h4, h5⟩
    exact ⟨h1, h2, h3, h4, h5⟩
set_option maxRecDepth 100000 in
set_option maxHeartbeats 3200000 in
theorem route_c (N : Nat) (pa : Option Addr) (n1 c1 : Nat) (pb : Option Addr) (n2 c2 : Nat) (t : T2) (w : World) (hC : Ns w pa n1 c1 t.1) (hM : Ms w pb n2 c2 t.2) (hn : n1 ≤ 9223372036854775807) (hm : n2 ≤ 9223372036854775807) (hN : N ≤ 9223372036854775807) :
    Calls Try.prog 70 #[.agg #[.slice pa n1 c1, .slice pb n2 c2], .int .i64 (N : Int)] w fun e w' => e = .returned (.bool (rteR N t)) ∧ Below w.heap.size w w' := by
  have hl2 := hM.len
  have V0 := Vals.new w 43 #[.slice pa n1 c1, .slice pb n2 c2]
  have B0 := below_alloc w (.cells #[.slice pa n1 c1, .slice pb n2 c2] 43)
  have HC := chain_c N pa n1 c1 t.1 _ (hC.below B0 (Nat.le_refl _)) hn hN
  have HM := contM_any 84 #[] (fun m => !matB m) pb n2 c2 t.2 _ (hM.below B0 (Nat.le_refl _)) (by omega) (tells_noMatC _) enter_noMatC
  have HR : Hid (rteR N t = (chB N t.1 && (decide (n2 ≤ 4) && !t.2.any fun m => !matB m))) := by show _ = _; rw [rteR_is, hl2]
  obtain ⟨x, hx⟩ : ∃ x, x = chB N t.1 := ⟨_, rfl⟩
  obtain ⟨y, hy⟩ : ∃ y, y = t.2.any fun m => !matB m := ⟨_, rfl⟩
  rw [← hx] at HC HR
  rw [← hy] at HM HR
  clear hx hy hC hM hl2
  go_enter Try.func70, Try.ntmps70
  go_upto_region 1 with fail
  generalize w.alloc (.cells #[.slice pa n1 c1, .slice pb n2 c2] 43) = w1 at *
  have c0 : w1.cell? ⟨w.heap.size, 0, none⟩ = some (.slice pa n1 c1) := V0.cell 0
  have d0 : w1.cell? ⟨w.heap.size, 1, none⟩ = some (.slice pb n2 c2) := V0.cell 1
  cases x with
  | false =>
    go_wp2_with fail
    refine HC.mono ?_
    rintro e w2 ⟨rfl, rfl⟩
    go_wp2_with fail
    go_ret
    exact ⟨retB (by rw [HR.out]; rfl), B0⟩
  | true =>
    by_cases h4 : n2 ≤ 4
    · go_wp2_with fail
      refine HC.mono ?_
      rintro e w2 ⟨rfl, rfl⟩
      go_wp2_with fail
      refine HM.mono ?_
      rintro e w3 ⟨rfl, B3⟩
      go_wp2_with fail
      go_ret
      exact ⟨retB (by rw [HR.out, decide_eq_true h4]; rfl), B0.trans (B3.mono B0.size)⟩
    · go_wp2_with fail
      refine HC.mono ?_
      rintro e w2 ⟨rfl, rfl⟩
      go_wp2_with fail
      go_ret
      exact ⟨retB (by rw [HR.out, decide_eq_false h4]; rfl), B0⟩
end Go.Proofs.Ytaiacohnhhicpaa
