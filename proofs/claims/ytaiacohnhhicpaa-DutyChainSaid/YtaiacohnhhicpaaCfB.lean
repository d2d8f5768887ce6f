/-
  The program's own: where a name stands, and which receivers may be together (package config).
-/
import Derived.Test.YtaiacohnhhicpaaCfA
import Derived.Test.YtaiacohnhhicpaaRfcF
namespace Go.Proofs.Ytaiacohnhhicpaa
open Go.RowKit Go.Shelf
set_option linter.unusedVariables false

set_option maxRecDepth 100000 in
set_option maxHeartbeats 1600000 in
theorem here_c (r : R9) (s : ByteArray) (c : Nat) (w : World) (hc : w.cell? ⟨c, 0, none⟩ = some (.string s)) :
    Calls Try.prog 81 #[aggR r, .pointer (some ⟨c, 0, none⟩)] w fun e w' => e = .returned (.bool (decide (r.nm = s))) ∧ Below w.heap.size w w' := by
  obtain ⟨x, ba, tp, ji, tr, fa, op, bu, ev⟩ := r
  dsimp only [aggR]
  have hq : (x.toList == s.toList) = decide (x = s) := by
    by_cases h : x = s
    · subst h; simp
    · rw [decide_eq_false h]
      have : x.toList ≠ s.toList := fun e => h (toList_inj e)
      simpa using this
  generalize decide (x = s) = b at *
  have hca := keepR (below_alloc w (.cells #[.string x, .int .i64 ba, .int .i64 tp, .int .i64 ji, .int .i64 tr, .int .i64 fa, .int .i64 op, .int .i64 bu, .int .i64 ev] 47)) hc
  have V0 := Vals.new w 47 #[.string x, .int .i64 ba, .int .i64 tp, .int .i64 ji, .int .i64 tr, .int .i64 fa, .int .i64 op, .int .i64 bu, .int .i64 ev]
  have B0 := below_alloc w (.cells #[.string x, .int .i64 ba, .int .i64 tp, .int .i64 ji, .int .i64 tr, .int .i64 fa, .int .i64 op, .int .i64 bu, .int .i64 ev] 47)
  go_enter Try.func81, Try.ntmps81
  go_upto_region 1 with fail
  generalize w.alloc (.cells #[.string x, .int .i64 ba, .int .i64 tp, .int .i64 ji, .int .i64 tr, .int .i64 fa, .int .i64 op, .int .i64 bu, .int .i64 ev] 47) = w1 at *
  have c0 : w1.cell? ⟨w.heap.size, 0, none⟩ = some (.string x) := V0.cell 0
  go_wp2_with fail
  go_ret
  exact ⟨rfl, B0⟩
theorem enter_here : ∀ args w, (callFunc 81 args).run Try.prog w = .ok (.enter 81 args) w := enters_of Try.func81 (by kernel_rfl) rfl
set_option maxRecDepth 100000 in
set_option maxHeartbeats 1600000 in
theorem idxR_c (s : ByteArray) (c : Nat) (oa : Option Addr) (n cap : Nat) (l : List R9) (w : World) (h : Rs w oa n cap l) (hn : n ≤ 9223372036854775807) (hc : w.cell? ⟨c, 0, none⟩ = some (.string s)) :
    Calls Try.prog 80 #[.slice oa n cap, .func (.func 81) #[] #[.pointer (some ⟨c, 0, none⟩)]] w fun e w' => e = .returned (.int .i64 (placeN l s)) ∧ Below w.heap.size w w' := by
  have HL := Lib.hid h.len
  have hr := h.room
  have eg := enter_here
  have HT := fun r W (B : Below w.heap.size w W) => here_c r s c W (keepR B hc)
  go_enter Try.func80, Try.ntmps80
  go_wp2_with fail
  go_loopw [5, 8] (fun _ s8 wr => ∃ k : Nat, k ≤ n ∧ s8 = .int .i64 k ∧ Below w.heap.size w wr ∧ Hid (∀ i, i < k → (l.getD i zR).nm ≠ s)) (fun _ s8 _ => n - (intOf s8).toNat)
  case atStart => exact ⟨0, Nat.zero_le _, rfl, Below.refl _ _, fun i hi => absurd hi (by omega)⟩
  case round =>
    obtain ⟨k, hk, rfl, hB, HA⟩ := hrel
    by_cases hlt : k < n
    · obtain ⟨g, o, rfl, c0, c1, c2, c3, c4, c5, c6, c7, c8⟩ := (h.below hB (Nat.le_refl _)).nine k hlt
      have HH : Hid ((l.getD k zR).nm = s → placeN l s = (k : Int)) := fun e => placeN_hit k (by rw [HL.out]; exact hlt) HA.out e
      have HQ : Hid ((l.getD k zR).nm ≠ s → ∀ i, i < k + 1 → (l.getD i zR).nm ≠ s) := fun e i hi => by
        by_cases e2 : i = k
        · subst e2; exact e
        · exact HA.out i (by omega)
      have HC := HT (l.getD k zR) _ hB
      generalize l.getD k zR = r at *
      obtain ⟨x, ba, tp, ji, tr, fa, op, bu, ev⟩ := r
      dsimp only [aggR] at c0 c1 c2 c3 c4 c5 c6 c7 c8 HH HQ HC
      clear h HA HT hc
      by_cases he : x = s
      · have HX := Lib.hid (HH.out he)
        rw [decide_eq_true he] at HC
        clear HH HQ he
        go_wp2_with fail
        refine HC.mono ?_
        rintro e w2 ⟨rfl, B2⟩
        go_wp2_with fail
        go_ret
        exact ⟨retI HX.out.symm, hB.trans (B2.mono hB.size)⟩
      · have HX := Lib.hid (HQ.out he)
        rw [decide_eq_false he] at HC
        clear HH HQ he
        go_wp2_with fail
        refine HC.mono ?_
        rintro e w2 ⟨rfl, B2⟩
        have B3 := hB.trans (B2.mono hB.size)
        go_wp2_with fail
        go_roundw
        case rel => exact ⟨k + 1, by omega, by go_num, B3, HX⟩
        case measure => simp [intOf]; omega
    · obtain rfl : k = n := by omega
      have HX := Lib.hid (placeN_none (l := l) (s := s) (fun i hi => HA.out i (by rw [HL.out] at hi; exact hi)))
      clear h HA HT hc
      go_wp2_with fail
      go_ret
      exact ⟨retI HX.out.symm, hB⟩
set_option maxRecDepth 100000 in
set_option maxHeartbeats 800000 in
theorem place_c (s : ByteArray) (oa : Option Addr) (n cap : Nat) (l : List R9) (w : World) (h : Rs w oa n cap l) (hn : n ≤ 9223372036854775807) :
    Calls Try.prog 69 #[.string s, .slice oa n cap] w fun e w' => e = .returned (.int .i64 (placeN l s)) ∧ Below w.heap.size w w' := by
  have V0 := Vals.new w 9 #[.string s]
  have B0 := below_alloc w (.cells #[.string s] 9)
  have HI := idxR_c s w.heap.size oa n cap l _ (h.below B0 (Nat.le_refl _)) hn (V0.cell 0)
  obtain ⟨p, hp⟩ : ∃ p, p = placeN l s := ⟨_, rfl⟩
  rw [← hp] at HI ⊢
  have hmf : ∀ (fn : Fn) (first cap : Array Value) (w : World), (Instr.makeFunc fn first cap).run Try.prog w = .ok (.func fn first cap) w := fun _ _ _ _ => rfl
  clear h hp
  go_enter Try.func69, Try.ntmps69
  go_upto_region 1 with fail
  generalize w.alloc (.cells #[.string s] 9) = w1 at *
  go_wp2_with fail
  refine HI.mono ?_
  rintro e w2 ⟨rfl, B2⟩
  go_wp2_with fail
  go_ret
  exact ⟨rfl, B0.trans (B2.mono B0.size)⟩
theorem placeN_self (l : List R9) : (l.map R9.nm).Nodup ↔ ∀ i, i < l.length → placeN l (l.getD i zR).nm = (i : Int) := by
  constructor
  · intro h i hi
    refine placeN_hit i hi (fun j hj => ?_) rfl
    rw [getD_R l i hi, getD_R l j (by omega)]
    have := (List.pairwise_iff_getElem.1 h) j i (by simp; omega) (by simpa using hi) (by omega)
    simpa using this
  · intro h
    refine List.pairwise_iff_getElem.2 fun i j hi hj hij => ?_
    have hi' : i < l.length := by simpa using hi
    have hj' : j < l.length := by simpa using hj
    intro e
    have e2 : l[i].nm = l[j].nm := by simpa using e
    have hp := h j hj'
    unfold placeN at hp
    cases hf : l.findIdx? fun r => decide (r.nm = (l.getD j zR).nm) with
    | none => rw [hf] at hp; simp at hp
    | some k =>
      rw [hf] at hp
      have hk : k = j := by
        have h2 : (k : Int) = (j : Int) := by simpa using hp
        omega
      subst hk
      rw [List.findIdx?_eq_some_iff_getElem] at hf
      obtain ⟨_, _, h3⟩ := hf
      have := h3 i hij
      rw [getD_R l k hj'] at this
      simp [e2] at this
def rcvsB (l : List R9) : Bool := numberB l.length && (l.all rcvR && decide (l.map R9.nm).Nodup)
theorem rcvsB_iff (l : List R9) : rcvsB l = true ↔ numberB l.length = true ∧ ∀ i, i < l.length → rcvR (l.getD i zR) = true ∧ placeN l (l.getD i zR).nm = (i : Int) := by
  unfold rcvsB
  simp only [Bool.and_eq_true, decide_eq_true_eq, List.all_eq_true]
  rw [placeN_self]
  constructor
  · rintro ⟨h1, h2, h3⟩
    exact ⟨h1, fun i hi => ⟨h2 _ (mem_R _ i hi), h3 i hi⟩⟩
  · rintro ⟨h1, h2⟩
    refine ⟨h1, fun r hr => ?_, fun i hi => (h2 i hi).2⟩
    obtain ⟨i, hi, rfl⟩ := List.getElem_of_mem hr
    have := (h2 i hi).1
    rwa [getD_R _ i hi] at this
theorem number_in (n : Nat) : numberB n = inC (n : Int) 1 4 := by
  unfold numberB inC
  rw [Bool.eq_iff_iff]
  simp only [Bool.and_eq_true, decide_eq_true_eq]
  omega
set_option maxRecDepth 100000 in
set_option maxHeartbeats 3200000 in
theorem rcvs_c (oa : Option Addr) (n cap : Nat) (l : List R9) (w : World) (h : Rs w oa n cap l) (hn : n ≤ 9223372036854775807) :
    Calls Try.prog 55 #[.slice oa n cap] w fun e w' => e = .returned (.bool (rcvsB l)) ∧ Below w.heap.size w w' := by
  have HL := Lib.hid h.len
  have hr := h.room
  have HI := Lib.hid (rcvsB_iff l)
  have HW := fun r w (hr : r = inC (n : Int) 1 4) => within_ci n 1 4 r w hr
  have hnb := number_in n
  cases hb : numberB n with
  | false =>
    have HF : Hid (rcvsB l = false) := by
      show _ = _
      unfold rcvsB
      rw [HL.out, hb]
      rfl
    have HQ := fun w => HW false w (by rw [← hnb, hb])
    clear HI HW hnb hb h
    go_enter Try.func55, Try.ntmps55
    go_wp2_with fail
    refine (HQ _).mono ?_
    rintro e w2 ⟨rfl, rfl⟩
    go_wp2_with fail
    go_ret
    exact ⟨retB HF.out.symm, Below.refl _ _⟩
  | true =>
    have HQ := fun w => HW true w (by rw [← hnb, hb])
    have HN : Hid ((∀ i, i < n → rcvR (l.getD i zR) = true ∧ placeN l (l.getD i zR).nm = (i : Int)) → rcvsB l = true) := fun h => HI.out.2 ⟨by rw [HL.out, hb], fun i hi => h i (by rw [← HL.out]; exact hi)⟩
    have HF : Hid (∀ k, k < n → (rcvR (l.getD k zR) = false ∨ placeN l (l.getD k zR).nm ≠ (k : Int)) → rcvsB l = false) := fun k hk h => by
      cases hb2 : rcvsB l with
      | false => rfl
      | true =>
        have := (HI.out.1 hb2).2 k (by rw [HL.out]; exact hk)
        rcases h with h | h
        · rw [h] at this; exact absurd this.1 (by simp)
        · exact absurd this.2 h
    clear HI HW hnb hb
    go_enter Try.func55, Try.ntmps55
    go_wp2_with fail
    refine (HQ _).mono ?_
    rintro e w2 ⟨rfl, rfl⟩
    clear HQ
    go_wp2_with fail
    go_loopw [11] (fun s11 wr => ∃ k : Nat, k ≤ n ∧ s11 = .int .i64 k ∧ Below w.heap.size w wr ∧ Hid (∀ i, i < k → rcvR (l.getD i zR) = true ∧ placeN l (l.getD i zR).nm = (i : Int))) (fun s11 _ => n - (intOf s11).toNat)
    case atStart => exact ⟨0, Nat.zero_le _, rfl, Below.refl _ _, fun i hi => absurd hi (by omega)⟩
    case round =>
      obtain ⟨k, hk, rfl, hB, HA⟩ := hrel
      by_cases hlt : k < n
      · have hRr := h.below hB (Nat.le_refl _)
        obtain ⟨g, o, rfl, c0, c1, c2, c3, c4, c5, c6, c7, c8⟩ := hRr.nine k hlt
        have HNo := Lib.hid (HF.out k hlt)
        have HYes : Hid (rcvR (l.getD k zR) = true → placeN l (l.getD k zR).nm = (k : Int) → ∀ i, i < k + 1 → rcvR (l.getD i zR) = true ∧ placeN l (l.getD i zR).nm = (i : Int)) := fun h1 h2 i hi => by
          by_cases e : i = k
          · subst e; exact ⟨h1, h2⟩
          · exact HA.out i (by omega)
        have HRc := fun w => rcv_c (l.getD k zR) w
        have HPl := fun wx (B : Below wr.heap.size wr wx) => place_c (l.getD k zR).nm (some ⟨g, o, none⟩) n cap l wx (hRr.below B (Nat.le_refl _)) hn
        clear HA HF hRr h
        obtain ⟨rr, hrr⟩ : ∃ rr, rr = rcvR (l.getD k zR) := ⟨_, rfl⟩
        obtain ⟨P, hP⟩ : ∃ P, P = placeN l (l.getD k zR).nm := ⟨_, rfl⟩
        simp only [← hrr] at HRc HNo HYes
        simp only [← hP] at HPl HNo HYes
        clear hrr hP
        generalize l.getD k zR = r at *
        obtain ⟨x, ba, tp, ji, tr, fa, op, bu, ev⟩ := r
        dsimp only at c0 c1 c2 c3 c4 c5 c6 c7 c8 HPl
        dsimp only [aggR] at HRc
        have VB := Vals.new wr 47 #[.string x, .int .i64 ba, .int .i64 tp, .int .i64 ji, .int .i64 tr, .int .i64 fa, .int .i64 op, .int .i64 bu, .int .i64 ev]
        have B3 := hB.alloc hB.size (.cells #[.string x, .int .i64 ba, .int .i64 tp, .int .i64 ji, .int .i64 tr, .int .i64 fa, .int .i64 op, .int .i64 bu, .int .i64 ev] 47)
        have B13 := below_alloc wr (.cells #[.string x, .int .i64 ba, .int .i64 tp, .int .i64 ji, .int .i64 tr, .int .i64 fa, .int .i64 op, .int .i64 bu, .int .i64 ev] 47)
        go_upto_region 6 with fail
        clear c0 c1 c2 c3 c4 c5 c6 c7 c8
        obtain ⟨N, hN⟩ : ∃ N, N = wr.heap.size := ⟨_, rfl⟩
        rw [← hN] at VB ⊢
        have HNs := Lib.hid hN
        clear hN
        generalize wr.alloc (.cells #[.string x, .int .i64 ba, .int .i64 tp, .int .i64 ji, .int .i64 tr, .int .i64 fa, .int .i64 op, .int .i64 bu, .int .i64 ev] 47) = w3 at *
        have d0 : w3.cell? ⟨N, 0, none⟩ = some (.string x) := VB.cell 0
        have d1 : w3.cell? ⟨N, 1, none⟩ = some (.int .i64 ba) := VB.cell 1
        have d2 : w3.cell? ⟨N, 2, none⟩ = some (.int .i64 tp) := VB.cell 2
        have d3 : w3.cell? ⟨N, 3, none⟩ = some (.int .i64 ji) := VB.cell 3
        have d4 : w3.cell? ⟨N, 4, none⟩ = some (.int .i64 tr) := VB.cell 4
        have d5 : w3.cell? ⟨N, 5, none⟩ = some (.int .i64 fa) := VB.cell 5
        have d6 : w3.cell? ⟨N, 6, none⟩ = some (.int .i64 op) := VB.cell 6
        have d7 : w3.cell? ⟨N, 7, none⟩ = some (.int .i64 bu) := VB.cell 7
        have d8 : w3.cell? ⟨N, 8, none⟩ = some (.int .i64 ev) := VB.cell 8
        cases rr with
        | false =>
          have HX := Lib.hid (HNo.out (.inl rfl))
          clear HNo HYes HPl
          go_wp2_with fail
          refine (HRc _).mono ?_
          rintro e w4 ⟨rfl, B4⟩
          go_wp2_with fail
          go_ret
          exact ⟨retB HX.out.symm, B3.trans (B4.mono B3.size)⟩
        | true =>
          go_wp2_with fail
          refine (HRc _).mono ?_
          rintro e w4 ⟨rfl, B4⟩
          have V4 := VB.keep B4 (Nat.le_refl _)
          have e0 : w4.cell? ⟨N, 0, none⟩ = some (.string x) := V4.cell 0
          have B5 := B3.trans (B4.mono B3.size)
          have HP2 := HPl w4 (B13.trans (B4.mono B13.size))
          clear HPl HRc d0 d1 d2 d3 d4 d5 d6 d7 d8
          by_cases hp : P = (k : Int)
          · have HX := Lib.hid (HYes.out (by first | rfl | trivial) hp)
            have hq : (P != (k : Int)) = false := by simp [hp]
            clear HNo HYes hp
            go_wp2_with fail
            refine HP2.mono ?_
            rintro e w6 ⟨rfl, B6⟩
            have B7 := B5.trans (B6.mono B5.size)
            go_wp2_with fail
            go_roundw
            case rel => exact ⟨k + 1, by omega, by go_num, B7, HX⟩
            case measure => simp [intOf]; omega
          · have HX := Lib.hid (HNo.out (.inr hp))
            have hq : (P != (k : Int)) = true := by simp [hp]
            clear HNo HYes hp
            go_wp2_with fail
            refine HP2.mono ?_
            rintro e w6 ⟨rfl, B6⟩
            have B7 := B5.trans (B6.mono B5.size)
            go_wp2_with fail
            go_ret
            exact ⟨retB HX.out.symm, B7⟩
      · obtain rfl : k = n := by omega
        have HX := Lib.hid (HN.out HA.out)
        clear h HA HF HN
        go_wp2_with fail
        go_ret
        exact ⟨retB HX.out.symm, hB⟩
end Go.Proofs.Ytaiacohnhhicpaa
