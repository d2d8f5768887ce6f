/-
  RouteRound's walk.
-/
import Derived.Test.YtplfmphhmlkejaaRotT
import Derived.Maps.RangeWalk
import Derived.Maps.OwnSet
import Derived.Maps.OwnOps
namespace Go.Proofs.Ytplfmphhmlkejaa
open Go.RowKit Go.Shelf Go.Maps
set_option linter.unusedVariables false

theorem lawInt : Keyed Try.prog 3 := int_keyed Try.underlying3
theorem zeroInt (w : World) : (zeroValue 3).run Try.prog w = .ok (.int .i64 0) w := by kernel_rfl
theorem Vals.grew {w w1 : World} {A : Nat} {T : TypeId} {xs : Array Value} {row : Option Nat} (h : Vals w A T xs) (hg : w.grownBy w1 row) (hne : some A ≠ row) : Vals w1 A T xs := (hg.block A h.lt hne).trans h
/-- what is met t steps behind the place j -/
def vis (ch : List Int) (j t : Nat) : Int := ch.getD ((j + t) % ch.length) 0
structure Met (D : DataW Unit) (ch : List Int) (j t : Nat) : Prop where
  keys : ∀ x : Int, Maps.has D (.int .i64 x) = true → ∃ s : Nat, s < t ∧ x = vis ch j s
  size : Maps.size D = t
theorem met_start (ch : List Int) (j : Nat) : Met (.map []) ch j 0 := ⟨fun x h => (Bool.noConfusion (h : false = true)), rfl⟩
theorem mod_apart {n j s t : Nat} (hs : s < t) (ht : t < n) : (j + s) % n ≠ (j + t) % n := by
  intro e
  have h1 := Nat.mod_add_div (j + s) n
  have h2 := Nat.mod_add_div (j + t) n
  have h3 : n * ((j + t) / n) = n * ((j + s) / n) + (t - s) := by omega
  have h4 : (j + t) / n = (j + s) / n ∨ (j + s) / n + 1 ≤ (j + t) / n ∨ (j + t) / n + 1 ≤ (j + s) / n := by omega
  rcases h4 with h4 | h4 | h4
  · rw [h4] at h3; omega
  · have h5 : n * ((j + s) / n + 1) ≤ n * ((j + t) / n) := Nat.mul_le_mul_left n h4
    rw [Nat.mul_add] at h5
    omega
  · have h5 : n * ((j + t) / n + 1) ≤ n * ((j + s) / n) := Nat.mul_le_mul_left n h4
    rw [Nat.mul_add] at h5
    omega
theorem vis_apart {N : Nat} {ch : List Int} {j s t : Nat} (hc : chainB N ch = true) (hs : s < t) (ht : t < ch.length) : vis ch j s ≠ vis ch j t := by
  have hm := mod_apart (j := j) hs ht
  have h1 : (j + s) % ch.length < ch.length := Nat.mod_lt _ (by omega)
  have h2 : (j + t) % ch.length < ch.length := Nat.mod_lt _ (by omega)
  have hf := (chainB_iff N ch).1 hc
  unfold vis
  rcases Nat.lt_or_gt_of_ne hm with h | h
  · exact (hf _ h2).2 _ h
  · exact fun e => (hf _ h1).2 _ h e.symm
theorem met_new {D : DataW Unit} {N : Nat} {ch : List Int} {j t : Nat} (h : Met D ch j t) (hc : chainB N ch = true) (ht : t < ch.length) : Maps.has D (.int .i64 (vis ch j t)) = false := by
  cases hh : Maps.has D (.int .i64 (vis ch j t)) with
  | false => rfl
  | true =>
    obtain ⟨i, hi, e⟩ := h.keys _ hh
    exact absurd e.symm (vis_apart hc hi ht)
theorem met_next {D : DataW Unit} {N : Nat} {ch : List Int} {j t : Nat} {y : Int} (h : Met D ch j t) (hD : Tidy D) (hc : chainB N ch = true) (ht : t < ch.length) : Met (D.put (.int .i64 (vis ch j t)) (.lit (.int .i64 y))) ch j (t + 1) := by
  have hn := met_new h hc ht
  refine ⟨fun z hz => ?_, ?_⟩
  · by_cases e : z = vis ch j t
    · exact ⟨t, by omega, e⟩
    · rw [has_put_other (by intro hh; cases hh; exact e rfl)] at hz
      obtain ⟨i, hi, e'⟩ := h.keys z hz
      exact ⟨i, by omega, e'⟩
  · rw [size_put hD, hn, h.size]
    rfl
theorem next_mod {n a : Nat} (hn : 0 < n) : (if ((a % n : Nat) : Int) + 1 = (n : Int) then (0 : Int) else ((a % n : Nat) : Int) + 1) = (((a + 1) % n : Nat) : Int) := by
  have h1 := Nat.mod_lt a hn
  have h2 : (a + 1) % n = (a % n + 1) % n := by rw [Nat.mod_add_mod]
  rw [h2]
  generalize a % n = b at *
  by_cases e : b + 1 = n
  · rw [if_pos (by omega), e, Nat.mod_self]; rfl
  · rw [if_neg (by omega), Nat.mod_eq_of_lt (by omega)]; omega
/-- what the calls tell on the way round -/
theorem round_at {C : CfgL} {k j t : Nat} (hr : cfgR C = true) (hk : k < C.2.1.length) (hn : 0 < (C.2.1.getD k zT).1.length) :
    rcvF C (k : Int) (((j + t) % (C.2.1.getD k zT).1.length : Nat) : Int) = (vis (C.2.1.getD k zT).1 j t, 0) ∧ nextF C (k : Int) (((j + t) % (C.2.1.getD k zT).1.length : Nat) : Int) = ((((j + (t + 1)) % (C.2.1.getD k zT).1.length : Nat) : Int), 0) := by
  have hlt := Nat.mod_lt (j + t) hn
  have hh : hasP C (k : Int) (((j + t) % (C.2.1.getD k zT).1.length : Nat) : Int) = true := by
    unfold hasP
    simp only [Bool.and_eq_true, decide_eq_true_eq]
    rw [show ((k : Int).toNat) = k by omega]
    exact ⟨by omega, by omega, by omega, by omega⟩
  obtain ⟨q1, q2⟩ := tells_yes hr hh
  rw [q1, q2]
  constructor
  · rfl
  · unfold nextP
    rw [show ((k : Int).toNat) = k by omega, next_mod hn, Nat.add_assoc]
set_option maxRecDepth 100000 in
set_option maxHeartbeats 12800000 in
theorem round_walk (o1 : Option Addr) (n1 c1 : Nat) (o2 : Option Addr) (n2 c2 : Nat) (c : CfgL) (i p : Int) (w : World) (h : CfgAt w o1 n1 c1 o2 n2 c2 c) :
    Calls Try.prog 5 #[aggC o1 n1 c1 o2 n2 c2 c, .int .i64 i, .int .i64 p] w fun e w' => e = .returned (.bool true) ∧ Below w.heap.size w w' := by
  have hmm := @run_makeMap Try.prog
  have hr1 := h.rs.room
  have hr2 := h.qs.room
  have HFew := fun w => few_any o1 n1 c1 o2 n2 c2 c w hr1 hr2
  have hC := h.few
  have VB := Vals.new w 25 (cfgV (.slice o1 n1 c1) (.slice o2 n2 c2) c.2.2.1 c.2.2.2)
  have B1 := below_alloc w (.cells (cfgV (.slice o1 n1 c1) (.slice o2 n2 c2) c.2.2.1 c.2.2.2) 25)
  generalize fewC c = C at *
  generalize min n1 6 = m1 at *
  generalize min n2 6 = m2 at *
  dsimp only [aggC] at *
  clear h hr1 hr2
  have HRc := fun q W (B : Below w.heap.size w W) => receiver_any o1 m1 c1 o2 m2 c2 C i q W (hC.below B (Nat.le_refl _))
  have HNx := fun q W (B : Below w.heap.size w W) => after_any o1 m1 c1 o2 m2 c2 C i q W (hC.below B (Nat.le_refl _))
  have HAl := fun W => alive_any W
  unfold PlaceOut at HRc HNx
  dsimp only [aggC] at HRc HNx
  have HRp := HRc p
  obtain ⟨a1, f1, haf⟩ : ∃ x y, rcvF C i p = (x, y) := ⟨_, _, rfl⟩
  have HZ : Hid (f1 = whyP C i p) := by
    show _ = _
    unfold rcvF at haf
    split at haf
    · rename_i e
      rw [Prod.mk.injEq] at haf
      rw [e, haf.2]
    · rw [Prod.mk.injEq] at haf
      exact haf.2.symm
  rw [haf] at HRp
  clear haf
  go_enter Try.func5, Try.ntmps5
  go_upto_region 1 with fail
  generalize w.alloc (.cells (cfgV (.slice o1 n1 c1) (.slice o2 n2 c2) c.2.2.1 c.2.2.2) 25) = w1 at *
  obtain ⟨x0, x1, x2, x3⟩ := boxC VB
  go_wp2_with fail
  refine (HFew _).mono ?_
  rintro e w2 ⟨rfl, B'⟩
  have B2 := B1.trans (B'.mono B1.size)
  have V2 := VB.keep B' (Nat.le_refl _)
  clear B1 VB x0 x1 x2 x3 B'
  have B1 := B2
  have VB := V2
  clear B2 V2
  obtain ⟨x0, x1, x2, x3⟩ := boxC VB
  have g0 := VB.free 0
  have g1' := VB.free 1
  have g2 := VB.free 2
  have g3 := VB.free 3
  clear HFew
  go_upto_region 2 with fail
  have V2 : Vals ((((w2.setCell ⟨w.heap.size, 0, none⟩ (.slice o1 m1 c1)).setCell ⟨w.heap.size, 1, none⟩ (.slice o2 m2 c2)).setCell ⟨w.heap.size, 2, none⟩ (.int .i64 C.2.2.1)).setCell ⟨w.heap.size, 3, none⟩ (.int .i64 C.2.2.2)) w.heap.size 25 (cfgV (.slice o1 m1 c1) (.slice o2 m2 c2) C.2.2.1 C.2.2.2) := VB.four _ _ _ _
  have B2 := below_four B1 (Nat.le_refl w.heap.size) (.slice o1 m1 c1) (.slice o2 m2 c2) (.int .i64 C.2.2.1) (.int .i64 C.2.2.2)
  clear B1 VB x0 x1 x2 x3 g0 g1' g2 g3
  generalize (((w2.setCell ⟨w.heap.size, 0, none⟩ (.slice o1 m1 c1)).setCell ⟨w.heap.size, 1, none⟩ (.slice o2 m2 c2)).setCell ⟨w.heap.size, 2, none⟩ (.int .i64 C.2.2.1)).setCell ⟨w.heap.size, 3, none⟩ (.int .i64 C.2.2.2) = w3 at *
  have B1 := B2
  have VB := V2
  clear B2 V2
  obtain ⟨x0, x1, x2, x3⟩ := boxC VB
  go_wp2_with fail
  refine (HRp _ B1).mono ?_
  rintro e w4 ⟨rfl, B'⟩
  have B2 := B1.trans (B'.mono B1.size)
  have V2 := VB.keep B' (Nat.le_refl _)
  clear B1 VB x0 x1 x2 x3 B'
  have B1 := B2
  have VB := V2
  clear B2 V2
  obtain ⟨x0, x1, x2, x3⟩ := boxC VB
  clear HRp
  by_cases hz : f1 = 0
  · obtain ⟨hR, hP⟩ := why_has (HZ.out.symm.trans hz)
    obtain ⟨k, j, rfl, rfl, hk, hj⟩ := hasP_parts hP
    have HQ := (hC.below B1 (Nat.le_refl _)).qs
    obtain ⟨g, o, pa, s1, k1, pb, s2, k2, rfl, e0, e1, hCh, hM⟩ := HQ.cell k (by rw [← HQ.len]; exact hk)
    have hk2 : k < m2 := by rw [← HQ.len]; exact hk
    have hlc := hCh.len
    obtain ⟨hcb, _, hl4, _⟩ := rteR_parts ((cfgR_parts hR).1 k hk)
    have hN4 := (cfgR_parts hR).2.2.2.2
    have HAt := Lib.hid (fun t => round_at (j := j) (t := t) hR hk (by omega))
    have HB4 : Hid (∀ t, 0 ≤ vis (C.2.1.getD k zT).1 j t ∧ vis (C.2.1.getD k zT).1 j t ≤ 4) := fun t => by
      have h2 : (j + t) % (C.2.1.getD k zT).1.length < (C.2.1.getD k zT).1.length := Nat.mod_lt _ (by omega)
      have := ((chainB_iff _ _).1 hcb _ h2).1
      unfold vis
      omega
    have HCB := Lib.hid hcb
    generalize hch : (C.2.1.getD k zT).1 = ch at *
    rw [hlc] at HAt
    have hj2 : j < s1 := by omega
    have hs4 : s1 ≤ 4 := by omega
    have HLc := Lib.hid hlc
    clear hch HQ hCh hM hP hR hk hj hlc hcb hl4 e1 HZ
    subst hz
    have HR2 : ∀ (t : Nat) W, Below w.heap.size w W → Calls Try.prog 9 #[.agg (cfgV (.slice o1 m1 c1) (.slice (some ⟨g, o, none⟩) m2 c2) C.2.2.1 C.2.2.2), .int .i64 (k : Int), .int .i64 (((j : Int) + (t : Int)) % (s1 : Int))] W fun e w' => e = .returned (.tuple #[.int .i64 (vis ch j t), .int .i64 0]) ∧ Below W.heap.size W w' := fun t W B => by
      have := HRc (((j + t) % s1 : Nat) : Int) W B
      rw [(HAt.out t).1] at this
      exact this
    have HN2 : ∀ (t : Nat) W, Below w.heap.size w W → Calls Try.prog 10 #[.agg (cfgV (.slice o1 m1 c1) (.slice (some ⟨g, o, none⟩) m2 c2) C.2.2.1 C.2.2.2), .int .i64 (k : Int), .int .i64 (((j : Int) + (t : Int)) % (s1 : Int))] W fun e w' => e = .returned (.tuple #[.int .i64 (((j : Int) + ((t : Int) + 1)) % (s1 : Int)), .int .i64 0]) ∧ Below W.heap.size W w' := fun t W B => by
      have := HNx (((j + t) % s1 : Nat) : Int) W B
      rw [(HAt.out t).2] at this
      exact this
    clear HRc HNx HAt
    have hw := World.ownsMap_made w4 Try.prog 3 (plainElem (H := Unit) Try.prog 3)
    have VM := VB.alloc (.map #[] 0)
    have BM := B1.alloc B1.size (.map #[] 0)
    have hlt0 := VB.lt
    obtain ⟨y0, y1, y2, y3⟩ := boxC VM
    go_wp2_with fail
    have hkd : decide (m2 ≤ k) = false := by simp; omega
    simp only [hkd, Bool.or_false]
    clear hkd
    generalize w4.alloc (.map #[] 0) = w5 at *
    generalize hM : w4.heap.size = M at *
    clear B1 VB x0 x1 x2 x3 y0 y1 y2 y3 e0
    go_loopw [11, 53] (fun s11 s53 wr => ∃ (t : Nat) (D : DataW Unit), s11 = .int .i64 (((j : Int) + (t : Int)) % (s1 : Int)) ∧ s53 = .int .i64 t ∧ t ≤ s1 ∧ Met D ch j t ∧ wr.ownsMap Try.prog 3 (plainElem Try.prog 3) M t D ∧ Vals wr w.heap.size 25 (cfgV (.slice o1 m1 c1) (.slice (some ⟨g, o, none⟩) m2 c2) C.2.2.1 C.2.2.2) ∧ Below w.heap.size w wr)
      (fun _ s53 _ => s1 - (intOf s53).toNat)
    case atStart => exact ⟨0, .map [], by rw [show ((j : Int) + ((0 : Nat) : Int)) % (s1 : Int) = (j : Int) from by rw [Int.emod_eq_of_lt (by omega) (by omega)]; omega], rfl, by omega, met_start ch j, hw, VM, BM⟩
    case round =>
      obtain ⟨t, D, rfl, rfl, ht, hmet, hown, VB, B1⟩ := hrel
      obtain ⟨x0, x1, x2, x3⟩ := boxC VB
      have HM := Lib.hid hmet
      clear hmet
      by_cases hlt : t < s1
      · have HB5 := Lib.hid (HB4.out t)
        go_wp2_with fail
        refine (HR2 t _ B1).mono ?_
        rintro e w6 ⟨rfl, B'⟩
        have hown6 := hown.kept (grown_of_below B') (by simp)
        have B2 := B1.trans (B'.mono B1.size)
        have V2 := VB.keep B' (Nat.le_refl _)
        clear B1 VB x0 x1 x2 x3 B'
        have B1 := B2
        have VB := V2
        clear B2 V2
        obtain ⟨x0, x1, x2, x3⟩ := boxC VB
        clear hown
        go_wp2_with fail
        refine (HN2 t _ B1).mono ?_
        rintro e w7 ⟨rfl, B'⟩
        have hown7 := hown6.kept (grown_of_below B') (by simp)
        have B2 := B1.trans (B'.mono B1.size)
        have V2 := VB.keep B' (Nat.le_refl _)
        clear B1 VB x0 x1 x2 x3 B'
        have B1 := B2
        have VB := V2
        clear B2 V2
        obtain ⟨x0, x1, x2, x3⟩ := boxC VB
        clear hown6
        have hv0 := HB5.out.1
        have hv4 := HB5.out.2
        clear HR2 HN2 HB4 hC hM
        go_wp2_with (first
          | (at_lookup; refine wpList_lookup_own_int _ rfl _ _ 47 rfl 3 3 .i64 lawInt Try.underlying47 Try.underlying3 (zeroInt _) M t _ rfl hown7 _ _ rfl (keyOf_int_mk Try.underlying3 (WalkArith.wf_i64 (by omega))) ?_; intro cc hat hwc)
          | (at_mapUpdate; refine wpList_mapUpdate_own _ rfl _ _ _ 47 rfl 3 3 lawInt Try.underlying47 _ M t _ rfl hown7 (by unfold maxLen; omega) _ _ _ rfl rfl (keyOf_int_mk Try.underlying3 (WalkArith.wf_i64 (by omega))) _ [] (plainElem_int Try.underlying3 (wrap64_wf _)) ?_; intro w8 hown8 hgrow8)
          | go_in)
        go_roundw
        case rel => exact ⟨t + 1, _, by rw [show ((t + 1 : Nat) : Int) = (t : Int) + 1 from by omega], by go_num, by omega, met_next HM.out (hown7.tidy lawInt) HCB.out (by rw [HLc.out]; exact hlt), hown8, VB.grew hgrow8 (by intro hh; cases hh; omega), B1.grown hgrow8 B1.size (fun j hj => by cases hj; omega)⟩
        case measure => simp only [intOf]; omega
      · obtain rfl : t = s1 := by omega
        clear HR2 HN2 HB4 hC
        go_wp2_with fail
        refine (HAl _).mono ?_
        rintro e w6 ⟨rfl, B'⟩
        have hown6 := hown.kept (grown_of_below B') (by simp)
        have B2 := B1.trans (B'.mono B1.size)
        have V2 := VB.keep B' (Nat.le_refl _)
        clear B1 VB x0 x1 x2 x3 B'
        have B1 := B2
        have VB := V2
        clear B2 V2
        obtain ⟨x0, x1, x2, x3⟩ := boxC VB
        have hlen : ∀ ty, (Builtin.len_ #[47] ty #[.map (some M)]).run Try.prog w6 = .ok (.int .i64 (t : Int)) w6 := fun ty => by rw [hown6.len Try.underlying47 ty, HM.out.size]
        have hat : ((j : Int) + (t : Int)) % (t : Int) = (j : Int) := by rw [← Int.natCast_add, ← Int.natCast_emod, Nat.add_mod_right, Nat.mod_eq_of_lt hj2]
        rw [hat]
        go_wp2_with fail
        go_ret
        exact ⟨by simp, B1⟩
  · have hzb : (f1 != 0) = true := by simp [hz]
    clear HRc HNx HZ hC
    go_wp2_with fail
    refine (HAl _).mono ?_
    rintro e w5 ⟨rfl, B'⟩
    have B2 := B1.trans (B'.mono B1.size)
    have V2 := VB.keep B' (Nat.le_refl _)
    clear B1 VB x0 x1 x2 x3 B'
    have B1 := B2
    have VB := V2
    clear B2 V2
    obtain ⟨x0, x1, x2, x3⟩ := boxC VB
    go_wp2_with fail
    go_ret
    exact ⟨by simp, B1⟩
end Go.Proofs.Ytplfmphhmlkejaa
