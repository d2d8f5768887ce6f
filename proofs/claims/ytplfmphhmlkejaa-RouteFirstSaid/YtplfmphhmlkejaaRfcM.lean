/-
  The document's own: which configs may be.
-/
import Derived.Test.YtplfmphhmlkejaaRfcF
import Derived.Deep.DeepCutAuto
import Derived.Deep.CutBlock
import Derived.Deep.RegionHeld3
namespace Go.Proofs.Ytplfmphhmlkejaa
open Go.RowKit Go.Shelf
set_option linter.unusedVariables false

theorem nodup_place (l : List R9) : (l.map R9.nm).Nodup ↔ ∀ i, i < l.length → ¬ 0 ≤ placeN (l.take i) (l.getD i zR).nm := by
  constructor
  · intro h i hi
    rw [placeN_none]
    · omega
    · intro j hj
      rw [List.length_take] at hj
      have e : (l.take i).getD j zR = l.getD j zR := by rw [List.getD_eq_getElem?_getD, List.getD_eq_getElem?_getD, List.getElem?_take_of_lt (by omega)]
      rw [e, getD_R l i hi, getD_R l j (by omega)]
      have := (List.pairwise_iff_getElem.1 h) j i (by simp; omega) (by simpa using hi) (by omega)
      simpa using this
  · intro h
    refine List.pairwise_iff_getElem.2 fun i j hi hj hij => ?_
    have hi' : i < l.length := by simpa using hi
    have hj' : j < l.length := by simpa using hj
    intro e
    have e2 : l[i].nm = l[j].nm := by simpa using e
    apply h j hj'
    have hex : ∃ k, k < j ∧ l.getD k zR = l.getD k zR ∧ (l.getD k zR).nm = (l.getD j zR).nm := ⟨i, hij, rfl, by rw [getD_R l i hi', getD_R l j hj']; exact e2⟩
    unfold placeN
    cases hf : (l.take j).findIdx? fun r => decide (r.nm = (l.getD j zR).nm) with
    | some k => simp
    | none =>
      have := (List.findIdx?_eq_none_iff.1 hf) l[i] (by rw [List.mem_take_iff_getElem]; exact ⟨i, by omega, rfl⟩)
      rw [getD_R l j hj'] at this
      simp [e2] at this
theorem cfgR_iff (c : CfgL) : cfgR c = true ↔ (∀ i, i < c.1.length → rcvR (c.1.getD i zR) = true ∧ ¬ 0 ≤ placeN (c.1.take i) (c.1.getD i zR).nm) ∧ (∀ i, i < c.2.1.length → rteR c.1.length (c.2.1.getD i zT) = true) ∧ numberB c.1.length = true ∧ numberB c.2.1.length = true ∧ oftenB c.2.2.1 = true ∧ oftenB c.2.2.2 = true := by
  unfold cfgR
  simp only [Bool.and_eq_true, decide_eq_true_eq, List.all_eq_true]
  rw [nodup_place]
  constructor
  · rintro ⟨⟨h1, h2⟩, h3, h4, h5, h6, h7⟩
    refine ⟨fun i hi => ⟨h1 _ (mem_R _ i hi), h2 i hi⟩, fun i hi => h3 _ ?_, h4, h5, h6, h7⟩
    rw [List.getD_eq_getElem?_getD, List.getElem?_eq_getElem hi]
    exact List.getElem_mem _
  · rintro ⟨h1, h3, h4, h5, h6, h7⟩
    refine ⟨⟨fun r hr => ?_, fun i hi => (h1 i hi).2⟩, fun t ht => ?_, h4, h5, h6, h7⟩
    · obtain ⟨i, hi, rfl⟩ := List.getElem_of_mem hr
      have := (h1 i hi).1
      rwa [getD_R _ i hi] at this
    · obtain ⟨i, hi, rfl⟩ := List.getElem_of_mem ht
      have := h3 i hi
      rwa [List.getD_eq_getElem?_getD, List.getElem?_eq_getElem hi] at this
set_option maxRecDepth 100000 in
set_option maxHeartbeats 6400000 in
theorem refCfgR_any (c : CfgL) (o1 : Option Addr) (n1 c1 : Nat) (o2 : Option Addr) (n2 c2 : Nat) (w : World) (h1 : Rs w o1 n1 c1 c.1) (h2 : Qs w o2 n2 c2 c.2.1) (hn : n1 ≤ 9223372036854775807) (hm : n2 ≤ 9223372036854775807)
    (hS : ∀ i, i < c.1.length → (c.1.getD i zR).nm.size ≤ 9223372036854775807) (hb : ∀ i, i < c.2.1.length → (c.2.1.getD i zT).1.length ≤ 9223372036854775807 ∧ (c.2.1.getD i zT).2.length ≤ 9223372036854775807 ∧ ShortM (c.2.1.getD i zT).2) :
    Calls Try.prog 12 #[.agg (cfgV (.slice o1 n1 c1) (.slice o2 n2 c2) c.2.2.1 c.2.2.2)] w fun e w' => e = .returned (.bool (cfgR c)) ∧ Below w.heap.size w w' := by
  obtain ⟨rep, hrep⟩ : ∃ rep, c.2.2.1 = rep := ⟨_, rfl⟩
  obtain ⟨beat, hbeat⟩ : ∃ beat, c.2.2.2 = beat := ⟨_, rfl⟩
  have hr1 := h1.room
  have hr2 := h2.room
  have HC := Lib.hid (cfgR_iff c)
  have HL1 := Lib.hid h1.len
  have HL2 := Lib.hid h2.len
  have HS := Lib.hid hS
  have HBo := Lib.hid hb
  have HRe := Lib.hid hrep
  have HBe := Lib.hid hbeat
  rw [hrep, hbeat]
  clear hS hb hrep hbeat
  have V0 := Vals.new w 25 (cfgV (.slice o1 n1 c1) (.slice o2 n2 c2) rep beat)
  have B1 := below_alloc w (.cells (cfgV (.slice o1 n1 c1) (.slice o2 n2 c2) rep beat) 25)
  obtain ⟨A, hA⟩ : ∃ A, A = w.heap.size := ⟨_, rfl⟩
  go_enter Try.func12, Try.ntmps12
  go_upto_region 1 with fail
  rw [← hA] at V0 ⊢
  clear hA
  generalize w.alloc (.cells (cfgV (.slice o1 n1 c1) (.slice o2 n2 c2) rep beat) 25) = w1 at *
  have g1 := h1.below B1 (Nat.le_refl _)
  have g2 := h2.below B1 (Nat.le_refl _)
  clear h1 h2
  have p0 : w1.cell? ⟨A, 0, none⟩ = some (.slice o1 n1 c1) := V0.cell 0
  have p1 : w1.cell? ⟨A, 1, none⟩ = some (.slice o2 n2 c2) := V0.cell 1
  have p2 : w1.cell? ⟨A, 2, none⟩ = some (.int .i64 rep) := V0.cell 2
  have p3 : w1.cell? ⟨A, 3, none⟩ = some (.int .i64 beat) := V0.cell 3
  go_wp2_with fail
  go_loopw [10] (fun s10 wr => ∃ k : Nat, k ≤ n1 ∧ s10 = .int .i64 k ∧ Below w1.heap.size w1 wr ∧ Hid (∀ i, i < k → rcvR (c.1.getD i zR) = true ∧ ¬ 0 ≤ placeN (c.1.take i) (c.1.getD i zR).nm)) (fun s10 _ => n1 - (intOf s10).toNat)
  case atStart => exact ⟨0, Nat.zero_le _, rfl, Below.refl _ _, fun i hi => absurd hi (by omega)⟩
  case round =>
    obtain ⟨k, hk, rfl, hB, HA⟩ := hrel
    clear p0 p1 p2 p3
    have V0r := V0.keep hB (Nat.le_refl _)
    have Bwr := B1.trans (hB.mono B1.size)
    by_cases hlt : k < n1
    · have hRr := g1.below hB (Nat.le_refl _)
      obtain ⟨g, o, rfl, c0, c1', c2', c3, c4, c5, c6, c7, c8⟩ := hRr.nine k hlt
      have hz := HS.out k (by have := HL1.out; omega)
      have HNo : Hid (rcvR (c.1.getD k zR) = false ∨ 0 ≤ placeN (c.1.take k) (c.1.getD k zR).nm → cfgR c = false) := fun h => by
        cases hb : cfgR c with
        | false => rfl
        | true =>
          have := (HC.out.1 hb).1 k (by have := HL1.out; omega)
          rcases h with h | h
          · rw [h] at this; exact absurd this.1 (by simp)
          · have h2 := this.2; omega
      have HYes : Hid (rcvR (c.1.getD k zR) = true → ¬ 0 ≤ placeN (c.1.take k) (c.1.getD k zR).nm → ∀ i, i < k + 1 → rcvR (c.1.getD i zR) = true ∧ ¬ 0 ≤ placeN (c.1.take i) (c.1.getD i zR).nm) := fun h1 h2 i hi => by
        by_cases e : i = k
        · subst e; exact ⟨h1, h2⟩
        · exact HA.out i (by omega)
      have HRc := fun w => refRcv_any (c.1.getD k zR) hz w
      have hk2 := hRr.take (i := k) (by omega)
      clear HA
      obtain ⟨rr, hrr⟩ : ∃ rr, rr = rcvR (c.1.getD k zR) := ⟨_, rfl⟩
      obtain ⟨P, hP⟩ : ∃ P, P = placeN (c.1.take k) (c.1.getD k zR).nm := ⟨_, rfl⟩
      have HPl := fun wx (B : Below wr.heap.size wr wx) => refPlace_any (some ⟨g, o, none⟩) k c1 (c.1.take k) (c.1.getD k zR).nm wx (hk2.below B (Nat.le_refl _)) (by omega)
      simp only [← hrr] at HRc HNo HYes
      simp only [← hP] at HPl HNo HYes
      clear hrr hP hk2 hRr
      generalize c.1.getD k zR = r at *
      obtain ⟨x, ba, tp, ji, tr, fa, op, bu, ev⟩ := r
      dsimp only at c0 c1' c2' c3 c4 c5 c6 c7 c8 HPl
      dsimp only [aggR] at HRc
      have V03 := V0r.alloc (.cells #[.string x, .int .i64 ba, .int .i64 tp, .int .i64 ji, .int .i64 tr, .int .i64 fa, .int .i64 op, .int .i64 bu, .int .i64 ev] 59)
      have VB := Vals.new wr 59 #[.string x, .int .i64 ba, .int .i64 tp, .int .i64 ji, .int .i64 tr, .int .i64 fa, .int .i64 op, .int .i64 bu, .int .i64 ev]
      have B3 := Bwr.alloc Bwr.size (.cells #[.string x, .int .i64 ba, .int .i64 tp, .int .i64 ji, .int .i64 tr, .int .i64 fa, .int .i64 op, .int .i64 bu, .int .i64 ev] 59)
      have hB3 := hB.alloc hB.size (.cells #[.string x, .int .i64 ba, .int .i64 tp, .int .i64 ji, .int .i64 tr, .int .i64 fa, .int .i64 op, .int .i64 bu, .int .i64 ev] 59)
      have B13 := below_alloc wr (.cells #[.string x, .int .i64 ba, .int .i64 tp, .int .i64 ji, .int .i64 tr, .int .i64 fa, .int .i64 op, .int .i64 bu, .int .i64 ev] 59)
      clear V0r Bwr hB
      go_upto_region 4 with fail
      clear c0 c1' c2' c3 c4 c5 c6 c7 c8
      obtain ⟨N, hN⟩ : ∃ N, N = wr.heap.size := ⟨_, rfl⟩
      rw [← hN] at VB ⊢
      clear hN
      generalize wr.alloc (.cells #[.string x, .int .i64 ba, .int .i64 tp, .int .i64 ji, .int .i64 tr, .int .i64 fa, .int .i64 op, .int .i64 bu, .int .i64 ev] 59) = w3 at *
      have d0 : w3.cell? ⟨N, 0, none⟩ = some (.string x) := VB.cell 0
      have d1 : w3.cell? ⟨N, 1, none⟩ = some (.int .i64 ba) := VB.cell 1
      have d2 : w3.cell? ⟨N, 2, none⟩ = some (.int .i64 tp) := VB.cell 2
      have d3 : w3.cell? ⟨N, 3, none⟩ = some (.int .i64 ji) := VB.cell 3
      have d4 : w3.cell? ⟨N, 4, none⟩ = some (.int .i64 tr) := VB.cell 4
      have d5 : w3.cell? ⟨N, 5, none⟩ = some (.int .i64 fa) := VB.cell 5
      have d6 : w3.cell? ⟨N, 6, none⟩ = some (.int .i64 op) := VB.cell 6
      have d7 : w3.cell? ⟨N, 7, none⟩ = some (.int .i64 bu) := VB.cell 7
      have d8 : w3.cell? ⟨N, 8, none⟩ = some (.int .i64 ev) := VB.cell 8
      have p0 : w3.cell? ⟨A, 0, none⟩ = some (.slice (some ⟨g, o, none⟩) n1 c1) := V03.cell 0
      go_cut [15, 16, 17, 18, 19, 20, 21, 22, 23, 24, 25, 26, 27] (fun _ _ _ _ _ _ _ _ _ _ _ _ s27 wx => s27 = .bool (!rr || decide (0 ≤ P)) ∧ Below w3.heap.size w3 wx)
      case first =>
        cases rr with
        | false =>
          first | (go_region_with (first | (go_at_call 23; refine (HRc _).mono ?_; rintro e wo ⟨rfl, Bf⟩))) | fail
          all_goals
            have B2 : Below w3.heap.size w3 wo := (Below.refl _ w3).drew.trans Bf
            go_wp2_with fail
            go_meet
            case rel => exact ⟨rfl, by first | exact B2 | exact B2.drew⟩
        | true =>
          first | (go_region_with (first
            | (go_at_call 23; refine (HRc _).mono ?_; rintro e wo ⟨rfl, Bf⟩; have p0o : wo.cell? ⟨A, 0, none⟩ = some (.slice (some ⟨g, o, none⟩) n1 c1) := keepR (w := w3.drew) Bf p0; have d0o : wo.cell? ⟨N, 0, none⟩ = some (.string x) := keepR (w := w3.drew) Bf d0)
            | (go_at_call 24; refine (HPl _ (B13.drew.trans (Bf.mono B13.size))).mono ?_; rintro e wp ⟨rfl, Bp⟩))) | fail
          all_goals
            have B2 : Below w3.heap.size w3 wp := ((Below.refl _ w3).drew.trans Bf).trans (Bp.mono Bf.size)
            go_wp2_with fail
            go_meet
            case rel => exact ⟨by simp, by first | exact B2 | exact B2.drew⟩
      case rest =>
        obtain ⟨b, hb⟩ : ∃ b, b = (!rr || decide (0 ≤ P)) := ⟨_, rfl⟩
        rw [← hb] at hcut
        obtain ⟨rfl, B4⟩ := hcut
        have hB4 := hB3.trans (B4.mono hB3.size)
        have Bw4 := B3.trans (B4.mono B3.size)
        clear VB V03 d0 d1 d2 d3 d4 d5 d6 d7 d8 p0 HRc HPl B13 B3 hB3 B4
        cases b with
        | true =>
          have HF : Hid (cfgR c = false) := HNo.out (by
            cases rr
            · exact .inl rfl
            · right
              simpa using hb.symm)
          clear HNo HYes hb
          go_wp2_with fail
          go_ret
          exact ⟨retB HF.out.symm, Bw4⟩
        | false =>
          have HA2 : Hid (∀ i, i < k + 1 → rcvR (c.1.getD i zR) = true ∧ ¬ 0 ≤ placeN (c.1.take i) (c.1.getD i zR).nm) := by
            cases rr
            · cases hb
            · exact HYes.out rfl (by simpa using hb.symm)
          clear HNo HYes hb Bw4
          go_wp2_with fail
          go_roundw
          case rel => exact ⟨k + 1, by omega, by go_num, hB4, HA2⟩
          case measure => simp [intOf]; omega
    · obtain rfl : k = n1 := by omega
      have p1 : wr.cell? ⟨A, 1, none⟩ = some (.slice o2 n2 c2) := V0r.cell 1
      clear V0r
      go_wp2_with fail
      clear p1
      go_loopw [32] (fun s32 wx => ∃ j : Nat, j ≤ n2 ∧ s32 = .int .i64 j ∧ Below w1.heap.size w1 wx ∧ Hid (∀ i, i < j → rteR c.1.length (c.2.1.getD i zT) = true)) (fun s32 _ => n2 - (intOf s32).toNat)
      case atStart => exact ⟨0, Nat.zero_le _, rfl, hB, fun i hi => absurd hi (by omega)⟩
      case round =>
        clear hB Bwr
        obtain ⟨j, hj, rfl, hB, HD⟩ := hrel
        have V0r := V0.keep hB (Nat.le_refl _)
        have Bwr := B1.trans (hB.mono B1.size)
        have p0 : wr.cell? ⟨A, 0, none⟩ = some (.slice o1 k c1) := V0r.cell 0
        by_cases hlt2 : j < n2
        · obtain ⟨g, o, pa, m1, k1, pb, m2, k2, rfl, c0, c1', hN, hM⟩ := (g2.below hB (Nat.le_refl _)).cell j hlt2
          have hbj := HBo.out j (by have := HL2.out; omega)
          have HNo : Hid (rteR c.1.length (c.2.1.getD j zT) = false → cfgR c = false) := fun h => by
            cases hb : cfgR c with
            | false => rfl
            | true =>
              have := (HC.out.1 hb).2.1 j (by have := HL2.out; omega)
              rw [h] at this
              cases this
          have HYes : Hid (rteR c.1.length (c.2.1.getD j zT) = true → ∀ i, i < j + 1 → rteR c.1.length (c.2.1.getD i zT) = true) := fun h1 i hi => by
            by_cases e : i = j
            · subst e; exact h1
            · exact HD.out i (by omega)
          have hlN := hN.len
          have hlM := hM.len
          have Ba := below_alloc wr (.cells #[.slice pa m1 k1, .slice pb m2 k2] 41)
          have HRo := refRoute_any k pa m1 k1 pb m2 k2 (c.2.1.getD j zT) _ (hN.below Ba (Nat.le_refl _)) (hM.below Ba (Nat.le_refl _)) (by omega) (by omega) hbj.2.2 hn
          rw [← HL1.out] at HRo
          obtain ⟨rr, hrr⟩ : ∃ rr, rr = rteR c.1.length (c.2.1.getD j zT) := ⟨_, rfl⟩
          rw [← hrr] at HRo HNo HYes
          rw [HL1.out] at HRo
          have hB5 := hB.trans (Ba.mono hB.size)
          have Bw5 := Bwr.trans (Ba.mono Bwr.size)
          have p0 : (wr.alloc (.cells #[.slice pa m1 k1, .slice pb m2 k2] 41)).cell? ⟨A, 0, none⟩ = some (.slice o1 k c1) := keepR Ba p0
          clear hrr hbj hN hM Ba hB Bwr V0r HD HA
          go_wp2_with fail
          refine HRo.mono ?_
          rintro e w6 ⟨rfl, B6⟩
          have hB6 := hB5.trans (B6.mono hB5.size)
          have Bw6 := Bw5.trans (B6.mono Bw5.size)
          clear HRo hB5 Bw5 p0 c0 c1'
          cases rr with
          | false =>
            have HF : Hid (cfgR c = false) := HNo.out rfl
            clear HNo HYes
            go_wp2_with fail
            go_ret
            exact ⟨retB HF.out.symm, Bw6⟩
          | true =>
            have HD2 := Lib.hid (HYes.out rfl)
            clear HNo HYes
            go_wp2_with fail
            go_roundw
            case rel => exact ⟨j + 1, by omega, by go_num, hB6, HD2⟩
            case measure => simp [intOf]; omega
        · obtain rfl : j = n2 := by omega
          have p1 : wr.cell? ⟨A, 1, none⟩ = some (.slice o2 j c2) := V0r.cell 1
          have p2 : wr.cell? ⟨A, 2, none⟩ = some (.int .i64 rep) := V0r.cell 2
          have p3 : wr.cell? ⟨A, 3, none⟩ = some (.int .i64 beat) := V0r.cell 3
          have HF : Hid (cfgR c = (numberB k && (numberB j && (oftenB rep && oftenB beat)))) := by
            have h := HC.out
            rw [HL1.out, HL2.out, HRe.out, HBe.out] at h
            rw [Bool.eq_iff_iff, h]
            simp only [Bool.and_eq_true]
            constructor
            · rintro ⟨_, _, h3, h4, h5, h6⟩
              exact ⟨h3, h4, h5, h6⟩
            · rintro ⟨h3, h4, h5, h6⟩
              refine ⟨fun i hi => HA.out i hi, fun i hi => ?_, h3, h4, h5, h6⟩
              have := HD.out i hi
              rwa [HL1.out] at this
          have HO1 := fun w => refOften_any rep w
          have HO2 := fun w => refOften_any beat w
          unfold numberB at HF
          clear HC HA HD HL1 HL2 HS HBo HRe HBe g1 g2 V0 V0r B1 hB
          by_cases a1 : 1 ≤ k
          · by_cases a2 : k ≤ 4
            · by_cases a3 : 1 ≤ j
              · by_cases a4 : j ≤ 4
                · cases hr : oftenB rep with
                  | true =>
                    rw [hr] at HO1 HF
                    go_wp2_with fail
                    refine (HO1 _).mono ?_
                    rintro e w7 ⟨rfl, rfl⟩
                    go_wp2_with fail
                    refine (HO2 _).mono ?_
                    rintro e w8 ⟨rfl, rfl⟩
                    go_wp2_with fail
                    go_ret
                    exact ⟨retB (by rw [HF.out]; simp [a1, a2, a3, a4]), Bwr⟩
                  | false =>
                    rw [hr] at HO1 HF
                    go_wp2_with fail
                    refine (HO1 _).mono ?_
                    rintro e w7 ⟨rfl, rfl⟩
                    go_wp2_with fail
                    go_ret
                    exact ⟨retB (by rw [HF.out]; simp), Bwr⟩
                · go_wp2_with fail
                  go_ret
                  exact ⟨retB (by rw [HF.out]; simp [a4]), Bwr⟩
              · go_wp2_with fail
                go_ret
                exact ⟨retB (by rw [HF.out]; simp [a3]), Bwr⟩
            · go_wp2_with fail
              go_ret
              exact ⟨retB (by rw [HF.out]; simp [a2]), Bwr⟩
          · go_wp2_with fail
            go_ret
            exact ⟨retB (by rw [HF.out]; simp [a1]), Bwr⟩
end Go.Proofs.Ytplfmphhmlkejaa
