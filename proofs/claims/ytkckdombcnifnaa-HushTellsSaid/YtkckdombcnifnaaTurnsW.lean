/-
  HushTurns' walk.
-/
import Derived.Test.YtkckdombcnifnaaFreesW
import Derived.Deep.RegionHeld3
import Derived.Deep.DeepCutAuto
import Derived.Deep.CutBlock
import Derived.RegionTactic
import Derived.Deep.RegionLaw
import Derived.BigQuiet
import Derived.Deep.QuietTactic
namespace Go.Proofs.Ytkckdombcnifnaa
open Go.RowKit Go.Shelf
set_option linter.unusedVariables false

theorem mod_bounds {m d : Int} (hm : 0 < m) (h2 : m ≤ 2097152) : 0 ≤ (wrap64 (d.tmod m + m)).tmod m ∧ (wrap64 (d.tmod m + m)).tmod m < m := by
  have h1 := Int.tmod_lt_of_pos d hm
  have h3 : -m < d.tmod m := by have := Int.lt_tmod_of_pos d hm; omega
  have e : wrap64 (d.tmod m + m) = d.tmod m + m := by
    unfold wrap64
    omega
  rw [e, Int.tmod_eq_emod_of_nonneg (by omega)]
  exact ⟨Int.emod_nonneg _ (by omega), Int.emod_lt_of_pos _ hm⟩
theorem few_len {l rs : List H5} (h : rs.map h3 = fewT (l.map h3)) : rs.length = min l.length 10 := by
  have h1 := congrArg List.length h
  unfold fewT at h1
  simp only [List.length_map, List.length_take] at h1
  omega
theorem Hs.drop {w : World} {g o n cap : Nat} {l : List H5} (h : Hs w (some ⟨g, o, none⟩) n cap l) (k : Nat) (hk : k ≤ n) : Hs w (some ⟨g, o + k * 3, none⟩) (n - k) (cap - k) (l.drop k) := by
  refine ⟨by rw [List.length_drop, h.len], by have := h.room; omega, fun i hi => ?_⟩
  obtain ⟨g', o', e, h1, h2, h3⟩ := h.cell (k + i) (by omega)
  cases e
  have e2 : (l.drop k).getD i zH = l.getD (k + i) zH := by rw [List.getD_eq_getElem?_getD, List.getD_eq_getElem?_getD, List.getElem?_drop]
  rw [e2]
  refine ⟨g, o + k * 3, rfl, ?_⟩
  rw [show o + k * 3 + i * 3 = o + (k + i) * 3 by omega]
  exact ⟨h1, h2, h3⟩
/-- turned, and one of them twice -/
def turnH (l : List H5) (k : Nat) : List H5 := l.drop k ++ l.take k ++ [l.getD k zH]
theorem turnH_mem {l : List H5} {k : Nat} (hk : k < l.length) (x : H5) : x ∈ turnH l k ↔ x ∈ l := by
  unfold turnH
  have e : x ∈ l ↔ x ∈ l.take k ∨ x ∈ l.drop k := by
    conv => lhs; rw [← List.take_append_drop k l]
    rw [List.mem_append]
  rw [List.mem_append, List.mem_append, List.mem_singleton, e]
  constructor
  · rintro ((h | h) | rfl)
    · exact .inr h
    · exact .inl h
    · exact e.1 (getD_mem l k hk)
  · rintro (h | h)
    · exact .inl (.inr h)
    · exact .inl (.inl h)
theorem turnT_mem {l : List H5} {k : Nat} (hk : k < l.length) (x : T3) : x ∈ l.map h3 ↔ x ∈ (turnH l k).map h3 := by
  rw [List.mem_map, List.mem_map]
  constructor
  · rintro ⟨y, hy, e⟩
    exact ⟨y, (turnH_mem hk y).2 hy, e⟩
  · rintro ⟨y, hy, e⟩
    exact ⟨y, (turnH_mem hk y).1 hy, e⟩
theorem turnT_may {l : List H5} {k : Nat} {L : List L2} {now : Int} (hk : k < l.length) (h7 : l.length ≤ 7) (h : mayT (l.map h3) L now = true) : mayT ((turnH l k).map h3) L now = true := by
  obtain ⟨h1, h2, h3'⟩ := mayT_parts h
  have : hshT ((turnH l k).map h3) = true := hshT_mk (by unfold turnH; simp; omega) fun x hx => hshT_mem h1 ((turnT_mem hk x).2 hx)
  unfold mayT
  rw [this, h2, h3']
  rfl
theorem free_no {l : List T3} {L : List L2} {now : Int} {e : Ending} (hm : mayT l L now = false) (h : FreeOut l L now e) : e = .returned (.tuple #[.int .i64 0, .int .i64 1]) := by
  rcases h with ⟨_, h⟩ | ⟨h, _⟩
  · exact h
  · rw [hm] at h; cases h
/-- there is such a time -/
theorem free_ex {l : List T3} {L : List L2} (now : Int) : ∃ t, FreeT l L now t := by
  refine ⟨goT now ((l.filter fun x => x.2.2.all (mB L)).mergeSort fun x y => decide (x.1 ≤ y.1)), goT_free now ?_ fun x => ?_⟩
  · have := List.pairwise_mergeSort (le := fun (x y : T3) => decide (x.1 ≤ y.1)) (fun a b c h1 h2 => by simp at *; omega) (fun a b => by simp; omega) (l.filter fun x => x.2.2.all (mB L))
    exact this.imp fun h => by simpa using h
  · rw [List.mem_mergeSort, List.mem_filter]
/-- some hushes lie at a slice of length m -/
def LieH (w wx : World) (m : Nat) (v : Value) : Prop := ∃ oz cz ls, v = .slice oz m cz ∧ Hs wx oz m cz ls ∧ Lk wx ls ∧ Below w.heap.size w wx
set_option maxRecDepth 100000 in
set_option maxHeartbeats 12800000 in
theorem turns_walk (oa : Option Addr) (n cap : Nat) (l : List H5) (ob : Option Addr) (nb cb : Nat) (L : List L2) (now turn : Int) (w : World) (h : Hs w oa n cap l) (hk : LkB w l) (hn : cap ≤ maxLen) (hL : Ls w ob nb cb L) (hnb : cb ≤ maxLen) :
    Calls Try.prog 6 #[.slice oa n cap, .slice ob nb cb, .int .i64 now, .int .i64 turn] w fun e w' => e = .returned (.bool true) ∧ Below w.heap.size w w' := by
  have hr := h.room
  have hl := h.len
  have hrb := hL.room
  unfold maxLen at hn hnb
  have BD : Below w.heap.size w w.drew := (Below.refl _ _).drew
  have HFew := few_any oa n cap l w.drew (h.below BD (Nat.le_refl _)) (fun x hx => ⟨(hk x hx).1.below BD (Nat.le_refl _), (hk x hx).2⟩) (by omega)
  have HSome := fun w1 (B1 : Below w.heap.size w w1) => some_any ob nb cb L w1 (hL.below B1 (Nat.le_refl _))
  have hL5 := hL.some
  have hm5 : min nb 5 ≤ 5 := Nat.min_le_right _ _
  obtain ⟨m, hm, em, hmn, hm7⟩ := minN_of n 7
  change min (n : Int) 7 = (m : Int) at em
  have HLe : Hid (∀ rs : List H5, rs.map h3 = fewT (l.map h3) → m ≤ rs.length ∧ rs.length ≤ 10) := fun rs q => by
    have := few_len q
    rw [hl] at this
    omega
  clear hm
  generalize hu : min nb 5 = u at *
  clear hu h hk hL hl
  generalize L.take u = L5 at *
  go_enter Try.func6, Try.ntmps6
  go_upto_region 1 with fail
  go_cut [0, 1, 18, 19, 20, 21, 22, 23, 24, 25] (fun s0 s1 _ _ _ _ _ _ _ _ wx => s1 = .slice ob u cb ∧ LieH w wx m s0)
  case first =>
    go_region_with (first
      | (go_at_call 7; refine HFew.mono ?_; rintro e w1 ⟨⟨v, rs, rfl, hO, hE⟩, B1⟩; obtain ⟨oz, cz, rfl, hH, hLk, hcz⟩ := hO.lies; obtain ⟨hmr, hr10⟩ := HLe.out rs hE; have hrc := hH.room; clear hO)
      | (go_at_call 9; refine (HSome _ (by first | exact BD | exact BD.trans (B1.mono (Nat.le_refl _)))).mono ?_; rintro e w2 ⟨rfl, rfl⟩))
    all_goals
      have hR : LieH w w1 m (.slice oz m cz) := ⟨oz, cz, rs.take m, rfl, hH.take hmr, hLk.take m, BD.trans (B1.mono (Nat.le_refl _))⟩
      clear hH hLk hE hcz hmr hr10 hrc B1
      go_wp2_with fail
      go_meet
      case rel => exact ⟨rfl, hR⟩
  case rest =>
    obtain ⟨rfl, oz, cz, ls, rfl, hH, hLk, B1⟩ := hcut
    clear HFew HSome HLe BD em
    have hL1 := hL5.below B1 (Nat.le_refl _)
    have HA := active_any oz m cz ls ob u cb L5 now wc hH hLk (by omega) hL1 (by omega)
    have HF := fun w2 (B2 : Below wc.heap.size wc w2) => free_any oz m cz ls ob u cb L5 now w2 (hH.below B2 (Nat.le_refl _)) (hLk.below B2 (Nat.le_refl _)) (by omega) (hL1.below B2 (Nat.le_refl _)) (by omega)
    have HAl := fun w => alive_any w
    have hlm := hH.len
    cases hmay : mayT (ls.map h3) L5 now with
    | false =>
      have HA1 : Calls Try.prog 11 #[.slice oz m cz, .slice ob u cb, .int .i64 now] wc fun e w' => e = .returned (.tuple #[.bool false, .int .i64 1]) ∧ Below wc.heap.size wc w' := HA.mono fun e w' q => ⟨act_no hmay q.1, q.2⟩
      have HF1 : ∀ w2, Below wc.heap.size wc w2 → Calls Try.prog 12 #[.slice oz m cz, .slice ob u cb, .int .i64 now] w2 fun e w' => e = .returned (.tuple #[.int .i64 0, .int .i64 1]) ∧ Below w2.heap.size w2 w' := fun w2 B => (HF w2 B).mono fun e w' q => ⟨free_no hmay q.1, q.2⟩
      clear HA HF hmay hH hLk hL1 hL5
      go_wp2_with fail
      refine HA1.mono ?_
      rintro e w2 ⟨rfl, B2⟩
      have B3 := B1.trans (B2.mono B1.size)
      go_wp2_with fail
      refine (HF1 _ B2).mono ?_
      rintro e w3 ⟨rfl, B4⟩
      have B5 := B3.trans (B4.mono B3.size)
      clear HA1 HF1 B2 B3 B4
      go_wp2_with fail
      refine (HAl _).mono ?_
      rintro e w4 ⟨rfl, B6⟩
      go_wp2_with fail
      go_ret
      exact ⟨rfl, B5.trans (B6.mono B5.size)⟩
    | true =>
      obtain ⟨m1, m2, m3⟩ := mayT_parts hmay
      obtain ⟨t, ht⟩ := free_ex (l := ls.map h3) (L := L5) now
      have hact := ht.act
      have htn := ht.1
      have HA1 : Calls Try.prog 11 #[.slice oz m cz, .slice ob u cb, .int .i64 now] wc fun e w' => e = .returned (.tuple #[.bool (decide (now < t)), .int .i64 0]) ∧ Below wc.heap.size wc w' := HA.mono fun e w' q => ⟨act_is hmay hact q.1, q.2⟩
      have HF1 : ∀ w2, Below wc.heap.size wc w2 → Calls Try.prog 12 #[.slice oz m cz, .slice ob u cb, .int .i64 now] w2 fun e w' => e = .returned (.tuple #[.int .i64 t, .int .i64 0]) ∧ Below w2.heap.size w2 w' := fun w2 B => (HF w2 B).mono fun e w' q => ⟨free_of hmay ht q.1, q.2⟩
      by_cases hm0 : m = 0
      · subst hm0
        clear HA HF hmay hH hLk hL1 hL5 ht hact
        generalize decide (now < t) = a at *
        go_wp2_with fail
        refine HA1.mono ?_
        rintro e w2 ⟨rfl, B2⟩
        have B3 := B1.trans (B2.mono B1.size)
        go_wp2_with fail
        refine (HF1 _ B2).mono ?_
        rintro e w3 ⟨rfl, B4⟩
        have B5 := B3.trans (B4.mono B3.size)
        clear HA1 HF1 B2 B3 B4
        go_wp2_with fail
        refine (HAl _).mono ?_
        rintro e w4 ⟨rfl, B6⟩
        go_wp2_with fail
        go_ret
        exact ⟨rfl, B5.trans (B6.mono B5.size)⟩
      · have hme : ((m : Int) == 0) = false := by simp; omega
        obtain ⟨k1, k2⟩ := mod_bounds (d := turn) (show (0 : Int) < (m : Int) by omega) (by omega)
        obtain ⟨g, o, rfl, _⟩ := hH.cell 0 (by omega)
        have HK := Lib.hid (And.intro k1 k2)
        have HM := Lib.hid hmay
        have HT := Lib.hid ht
        have HH := Lib.hid hH
        have HL := Lib.hid hLk
        have HL1 := Lib.hid hL1
        have hmz : 0 < (m : Int) := by omega
        clear HA HF hmay hH hLk hL1 hL5 ht hact m1 m2 m3 k1 k2
        go_wp2_with fail
        refine HA1.mono ?_
        rintro e w2 ⟨rfl, B2⟩
        have B3 := B1.trans (B2.mono B1.size)
        go_wp2_with fail
        refine (HF1 _ B2).mono ?_
        rintro e w3 ⟨rfl, B4⟩
        have B5 := B3.trans (B4.mono B3.size)
        have B6 := B2.trans (B4.mono B2.size)
        clear HA1 HF1 B2 B3 B4
        go_upto_region 7 with fail
        obtain ⟨k1, k2⟩ := HK.out
        clear HK
        obtain ⟨k, hk⟩ : ∃ k : Nat, (wrap64 (turn.tmod (m : Int) + (m : Int))).tmod (m : Int) = (k : Int) := ⟨((wrap64 (turn.tmod (m : Int) + (m : Int))).tmod (m : Int)).toNat, by omega⟩
        rw [hk] at k1 k2 ⊢
        clear hk
        have hkm : k < m := by omega
        have hmcz := HH.out.room
        have hkm2 : k ≤ m := by omega
        have hkc : ¬ cz = k := by omega
        have hkz : k ≤ cz := by omega
        have hs3 := B6.size
        have Bd : Below w3.heap.size w3 ((w3.alloc (.cells #[] 25)).drew) := ((Below.refl _ w3).alloc (Nat.le_refl _) _).drew
        have own0 : ((w3.alloc (.cells #[] 25)).drew).ownsRow w3.heap.size 25 3 (.slice (some ⟨w3.heap.size, 0, none⟩) 0 0) 0 (cellsH []) := World.ownsRow_made w3 #[] 0 (Nat.le_refl _) (Nat.zero_le _) rfl
        have hD1 := (HH.out.below (B6.trans (Bd.mono hs3)) (Nat.le_refl _)).drop k (by omega)
        have hsz0 : w3.heap.size ≤ ((w3.alloc (.cells #[] 25)).drew).heap.size := Bd.size
        go_cut [13, 63, 64, 65, 66, 67, 68, 69, 70, 71] (fun s13 _ _ _ _ _ _ _ _ _ wx => Hid (wx.ownsRow w3.heap.size 25 3 s13 m (cellsH (ls.drop k ++ ls.take k))) ∧ Below w3.heap.size w3 wx)
        case first =>
          go_region_law (first
            | (refine step_append_hs _ (by rfl) (.tmp 63) (.tmp 66) (by rfl) w3.heap.size (by rfl) own0 (by rfl) hD1 (by omega) hsz0 ?_; intro v1 w4 own1 hg1; have B7 : Below w3.heap.size w3 w4 := Bd.grown hg1 hsz0 (fun r e => (own0.lt r e).1); have hD2 := (HH.out.below (B6.trans (B7.mono hs3)) (Nat.le_refl _)).take (Nat.le_of_lt hkm); have hsz4 := B7.size; rw [Nat.zero_add] at own1)
            | (refine step_append_hs _ (by rfl) (.tmp 67) (.tmp 70) (by rfl) w3.heap.size (by rfl) own1 (by rfl) hD2 (by omega) hsz4 ?_; intro v2 w5 own2 hg2; have B8 : Below w3.heap.size w3 w5 := B7.grown hg2 hsz4 (fun r e => (own1.lt r e).1)))
          have own3 : Hid (w5.ownsRow w3.heap.size 25 3 v2 m (cellsH (ls.drop k ++ ls.take k))) := by
            show World.ownsRow _ _ _ _ _ _ _
            rw [show m - k + k = m by omega] at own2
            rw [cellsH_append]
            exact own2
          clear own0 own1 own2 hg1 hg2 hD1 hD2 B7
          go_wp2_with fail
          go_meet
          case rel => exact ⟨own3, B8⟩
        case rest =>
          obtain ⟨HO, B7⟩ := hcut
          clear own0 hD1 Bd hsz0
          have hkl : k < ls.length := by omega
          have B8 := B6.trans (B7.mono hs3)
          have B9 := B5.trans (B7.mono B5.size)
          have hsz3 := B7.size
          have hlen : (ls.drop k ++ ls.take k).length = m := by simp; omega
          obtain ⟨_, _, e, c0, c1, c2⟩ := (HH.out.below B8 (Nat.le_refl _)).cell k hkm
          cases e
          have HTn : Hid (turnH ls k = (ls.drop k ++ ls.take k) ++ [ls.getD k zH]) := rfl
          have HMay := Lib.hid (turnT_may hkl (by omega) HM.out)
          have HFree := Lib.hid (HT.out.congr (turnT_mem hkl))
          have HLk : Hid (Lk _ (turnH ls k)) := HL.out.sub fun x hx => (turnH_mem hkl x).1 hx
          have HLen : Hid ((turnH ls k).length = m + 1) := by show _ = _; unfold turnH; simp; omega
          generalize ls.getD k zH = x at *
          generalize ls.drop k ++ ls.take k = lz at *
          generalize turnH ls k = lt at *
          have hone := Hs.one wc x
          have BC := below_alloc wc (.cells (vH x) 25)
          have own1 := own_keep HO.out BC
          have hB1 := B7.trans (BC.mono hsz3)
          have hsz5 := hB1.size
          obtain ⟨f, t', pa, q, c, ms⟩ := x
          dsimp only [vH] at *
          have HO1 := Lib.hid own1
          clear own1 BC HO HH HM HT HL B8
          go_wp2_with (first | (at_builtin; refine wpList_append_hs _ rfl (.tmp 72) (.tmp 77) rfl w3.heap.size rfl HO1.out rfl hone (by omega) hsz5 ?_; intro v1 w6 own6 hg6; have B10 : Below w3.heap.size w3 w6 := hB1.grown hg6 hsz5 (fun r e => (HO1.out.lt r e).1)))
          rw [← cellsH_append, ← HTn.out] at own6
          obtain ⟨oq, cq, rfl, hH6, _⟩ := Hs.of_own HLen.out own6
          have B11 := B6.trans (B10.mono hs3)
          have B12 := B5.trans (B10.mono B5.size)
          have hLk6 := HLk.out.below B11 (Nat.le_refl _)
          have hL6 := HL1.out.below B11 (Nat.le_refl _)
          have HA := active_any oq (m + 1) cq lt ob u cb L5 now w6 hH6 hLk6 (by omega) hL6 (by omega)
          have HF := fun w2 (B2 : Below w6.heap.size w6 w2) => free_any oq (m + 1) cq lt ob u cb L5 now w2 (hH6.below B2 (Nat.le_refl _)) (hLk6.below B2 (Nat.le_refl _)) (by omega) (hL6.below B2 (Nat.le_refl _)) (by omega)
          have HA2 : Calls Try.prog 11 #[.slice oq (m + 1) cq, .slice ob u cb, .int .i64 now] w6 fun e w' => e = .returned (.tuple #[.bool (decide (now < t)), .int .i64 0]) ∧ Below w6.heap.size w6 w' := HA.mono fun e w' q => ⟨act_is HMay.out HFree.out.act q.1, q.2⟩
          have HF2 : ∀ w2, Below w6.heap.size w6 w2 → Calls Try.prog 12 #[.slice oq (m + 1) cq, .slice ob u cb, .int .i64 now] w2 fun e w' => e = .returned (.tuple #[.int .i64 t, .int .i64 0]) ∧ Below w2.heap.size w2 w' := fun w2 B => (HF w2 B).mono fun e w' q => ⟨free_of HMay.out HFree.out q.1, q.2⟩
          clear HA HF own6 hg6 hone HO1 hH6 hLk6 hL6 HMay HFree HLk HLen HTn B10 B11 B9 B5 B6 B7 B1 hB1 c0 c1 c2 HL1
          go_wp2_with fail
          refine HA2.mono ?_
          rintro e w7 ⟨rfl, B13⟩
          have B14 := B12.trans (B13.mono B12.size)
          go_wp2_with fail
          refine (HF2 _ B13).mono ?_
          rintro e w8 ⟨rfl, B15⟩
          have B16 := B14.trans (B15.mono B14.size)
          clear HA2 HF2 B13 B14 B15 B12
          go_wp2_with fail
          refine (HAl _).mono ?_
          rintro e w9 ⟨rfl, B17⟩
          go_wp2_with fail
          go_ret
          exact ⟨by simp, B16.trans (B17.mono B16.size)⟩
end Go.Proofs.Ytkckdombcnifnaa
