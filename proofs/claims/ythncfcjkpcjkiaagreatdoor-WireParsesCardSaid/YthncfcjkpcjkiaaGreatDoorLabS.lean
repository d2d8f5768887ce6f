/-
  Labels: a row of its own, in order.
-/
import Derived.Test.YthncfcjkpcjkiaaGreatDoorLabQ
import Derived.Test.YthncfcjkpcjkiaaGreatDoorLabI
import Derived.Test.YthncfcjkpcjkiaaGreatDoorLays
namespace Go.Proofs.YthncfcjkpcjkiaaGreatDoor
open Go.RowKit Go.Shelf Go.Lib Go.Sort
set_option linter.unusedVariables false

theorem ltN (x y : L2) : ltOf cmpN x y = ltS x.1 y.1 := by
  unfold ltOf cmpN
  rw [cmpS_is]
  cases h : ltS x.1 y.1 with
  | true => simp
  | false => cases h2 : ltS y.1 x.1 <;> simp
theorem swoN : SWO (ltOf cmpN) where
  irrefl x := by rw [ltN]; exact ltS_irrefl _
  trans x y z h1 h2 := by rw [ltN] at *; exact ltS_trans h1 h2
  ntrans x y z h1 h2 := by
    rw [ltN] at *
    cases h3 : ltS x.1 z.1 with
    | false => rfl
    | true =>
      cases h4 : ltS y.1 x.1 with
      | true => rw [ltS_trans h4 h3] at h2; cases h2
      | false => rw [ltS_total h1 h4] at h3; rw [h3] at h2; cases h2

theorem cmpLaysN (blk off size : Nat) (w : World) : CmpLays Tryz.prog 72 #[] encL 2 cmpN blk off size w :=
  fun _ _ _ _ x y => byName_any x y _
theorem getD_toArray (l : List L2) (i : Nat) (hi : i < l.length) : (l.toArray[i]! : L2) = l.getD i zL := by
  rw [getD_L _ _ hi, getElem!_pos _ _ (by simpa using hi)]
  simp
theorem permIn_perm {d d' : Array L2} (h : PermIn 0 d.size d d') : d'.toList.Perm d.toList := by
  obtain ⟨h1, _, h3⟩ := h
  have e1 : d'.extract 0 d.size = d' := by rw [← h1]; exact Array.extract_size
  have e2 : d.extract 0 d.size = d := Array.extract_size
  rw [e1, e2] at h3
  exact h3
set_option maxHeartbeats 1000000 in
theorem sort_any (blk off cap : Nat) (l : List L2) (w : World) (hH : HoldsK encL 2 w blk off l.toArray) (hblk : blk < w.heap.size) (hn : l.length ≤ 70) :
    Calls Tryz.prog 87 #[.slice (some ⟨blk, off, none⟩) l.length cap, .func (.func 72) #[] #[]] w fun e w' => e = .returned (.tuple #[]) ∧ ∃ r : List L2, r.Perm l ∧ SortedL r ∧ ∃ n os, w' = sortWorldK encL 2 w blk off n r.toArray os := by
  have hcon := AnyQ.slices_SortFunc laySort 2 Tryz.isAgg52 Tryz.sizeOf52 encL (fun _ => rfl) (fun x v hv => by simp [encL] at hv; rcases hv with rfl | rfl <;> rfl) cmpN swoN 72 #[] blk off cap l.toArray w enter_byName (cmpLaysN blk off _ w) hH hblk (by simp; omega)
  change Calls Tryz.prog 87 _ _ _ at hcon
  rw [List.size_toArray] at hcon
  refine hcon.mono ?_
  rintro e w' ⟨rfl, d', n, os, hp, hs, rfl⟩
  have hp' : PermIn 0 l.toArray.size l.toArray d' := by rw [List.size_toArray]; exact hp
  have hperm := permIn_perm hp'
  have hlen := hperm.length_eq
  refine ⟨rfl, d'.toList, by simpa using hperm, ?_, n, os, by simp⟩
  refine List.pairwise_iff_getElem.2 fun i j hi hj hij => ?_
  have hj' : j < l.length := by simpa using hlen ▸ hj
  have h := hs i j (Nat.zero_le _) hij hj'
  rw [ltN, getElem!_pos d' j (by simpa using hj), getElem!_pos d' i (by simpa using hi)] at h
  simpa using h
theorem holdsL {w : World} {blk off : Nat} {l : List L2} (h : ∀ i, i < l.length → (w.cell? ⟨blk, off + i * 2, none⟩ = some (.string (l.getD i zL).1) ∧ w.cell? ⟨blk, off + i * 2 + 1, none⟩ = some (.string (l.getD i zL).2)) ∧ w.frozen? ⟨blk, off + i * 2, none⟩ = false ∧ w.frozen? ⟨blk, off + i * 2 + 1, none⟩ = false) : HoldsK encL 2 w blk off l.toArray := by
  intro t ht
  rw [size_flatK, List.size_toArray] at ht
  rw [get_flatK _ _ _ _ (by simpa using ht)]
  have hi : t / 2 < l.length := by omega
  obtain ⟨⟨h1, h2⟩, h3, h4⟩ := h (t / 2) hi
  rw [getD_toArray _ _ hi]
  rcases Nat.mod_two_eq_zero_or_one t with h0 | h0
  · rw [show off + t / 2 * 2 = off + t from by omega] at h1 h3
    rw [h0]
    exact ⟨h1, h3⟩
  · rw [show off + t / 2 * 2 + 1 = off + t from by omega] at h2 h4
    rw [h0]
    exact ⟨h2, h4⟩
theorem grownBy_sortL {w : World} {g off n : Nat} {os : Array Obj} (l : List L2) (hg : g < w.heap.size) : w.grownBy (sortWorldK encL 2 w g off n l.toArray os) (some g) := by
  refine ⟨rfl, rfl, rfl, ?_, fun i hi hne => ?_⟩
  · simp [sortWorldK, grow, putRowK]
  · unfold sortWorldK
    rw [heap_grow_old _ _ (by simpa [putRowK] using hi)]
    have : g ≠ i := fun e => hne (by rw [e])
    simp [putRowK, putRow, mapBlock, Sort.ahead, Array.getElem?_modify, this]
/-- what lies behind the sort -/
theorem sorted_at {w : World} {blk off cap n : Nat} {l r : List L2} {os : Array Obj} (hH : HoldsK encL 2 w blk off l.toArray) (hblk : blk < w.heap.size) (hcap : l.length ≤ cap) (hr : r.length = l.length) :
    Ls (sortWorldK encL 2 w blk off n r.toArray os) (some ⟨blk, off, none⟩) l.length cap r ∧ ∀ B, B ≤ blk → Below B w (sortWorldK encL 2 w blk off n r.toArray os) := by
  have h1 : HoldsK encL 2 (sortWorldK encL 2 w blk off n r.toArray os) blk off r.toArray := by
    unfold sortWorldK
    refine holdsK_grow _ _ _ _ _ _ _ ?_ (holdsK_putRowK encL 2 (Sort.ahead w n) blk off l.toArray _ (holdsK_ahead _ _ _ _ _ _ _ hH) (by simp [hr]))
    simpa [putRowK, Sort.ahead] using hblk
  refine ⟨⟨hr, hcap, fun i hi => ⟨blk, off, rfl, ?_, ?_⟩⟩, fun B hB => ?_⟩
  · have := (h1.cell (i := i) (c := 0) (by simpa [hr] using hi) (by omega)).1
    rw [Nat.add_zero] at this
    rw [this, getD_L _ _ (by rw [hr]; exact hi), getElem!_pos r.toArray i (by simpa [hr] using hi)]
    simp [encL]
  · have := (h1.cell (i := i) (c := 1) (by simpa [hr] using hi) (by omega)).1
    rw [this, getD_L _ _ (by rw [hr]; exact hi), getElem!_pos r.toArray i (by simpa [hr] using hi)]
    simp [encL]
  · exact (Below.refl B w).grown (grownBy_sortL r hblk) (by omega) (fun j hj => by cases hj; exact hB)
theorem holds_own {w : World} {base cap g n : Nat} {ds : List L2} (hl : ds.length = n) (h : w.ownsRow base 52 2 (.slice (some ⟨g, 0, none⟩) n cap) n (cellsL ds)) (hn : 0 < n) : HoldsK encL 2 w g 0 ds.toArray := by
  obtain ⟨g', e, hb, hlt, hfr⟩ := frozenL h hn
  cases e
  obtain ⟨oa, cap', e, hD, _⟩ := Ls.of_own hl h
  cases e
  refine holdsL fun i hi => ?_
  obtain ⟨g', o, e, h1, h2⟩ := hD.cell i (by omega)
  cases e
  exact ⟨⟨h1, h2⟩, hfr _, hfr _⟩
set_option maxHeartbeats 1600000 in
theorem sfunc_any (Bs : Nat) (oa : Option Addr) (m cap : Nat) (ds : List L2) (h0 : 0 < m) (hm : m ≤ 70) (w : World) (hBs : Bs < w.heap.size) (hc : w.cell? ⟨Bs, 0, none⟩ = some (.slice oa m cap)) (hD : Ls w oa m cap ds) :
    Calls Tryz.prog 70 #[.func (.func 88) #[] #[.pointer (some ⟨Bs, 0, none⟩)], .func (.func 72) #[] #[]] w fun e w' => (∃ (r : List L2) (oa' : Option Addr) (cap' : Nat), e = .returned (.slice oa' m cap') ∧ r.Perm ds ∧ SortedL r ∧ Ls w' oa' m cap' r) ∧ Below w.heap.size w w' := by
  have hl := hD.len
  have h := collect_any Bs oa m cap ds hm w hBs hc hD
  clear hc hD
  go_enter Tryz.func70, Tryz.ntmps70
  go_wp2_with fail
  refine h.mono ?_
  rintro e w1 ⟨⟨v, rfl, hv⟩, B⟩
  obtain ⟨oa', cap', rfl, hD', hm'⟩ := Ls.of_own hl hv
  obtain ⟨g, rfl, hb, hlt, hfr⟩ := frozenL hv h0
  have hH := holds_own hl hv h0
  have hS := sort_any g 0 cap' ds w1 hH hlt (by omega)
  have hA := fun n os (r : List L2) hr => sorted_at (n := n) (os := os) (r := r) hH hlt (show ds.length ≤ cap' by have := hD'.room; omega) hr
  have HL := Lib.hid hl
  rw [hl] at hS hA
  clear hv hH hD' hl
  go_wp2_with fail
  refine hS.mono ?_
  rintro e w2 ⟨rfl, r, hp, hs, n, os, rfl⟩
  obtain ⟨q1, q2⟩ := hA n os r (by rw [hp.length_eq, HL.out])
  have HP := Lib.hid hp
  have HS := Lib.hid hs
  clear hp hs
  generalize sortWorldK encL 2 w1 g 0 n r.toArray os = w2 at *
  go_wp2_with fail
  go_ret
  exact ⟨⟨_, _, _, rfl, HP.out, HS.out, q1⟩, B.trans (q2 _ hb)⟩
set_option maxHeartbeats 800000 in
theorem values2_any (oa : Option Addr) (m cap : Nat) (ds : List L2) (h0 : 0 < m) (hm : m ≤ 70) (w : World) (hD : Ls w oa m cap ds) :
    Calls Tryz.prog 70 #[.func (.func 88) #[] #[.pointer (some ⟨w.heap.size, 0, none⟩)], .func (.func 72) #[] #[]] (w.alloc (.cells #[.slice oa m cap] 22)) fun e w' => (∃ (r : List L2) (oa' : Option Addr) (cap' : Nat), e = .returned (.slice oa' m cap') ∧ r.Perm ds ∧ SortedL r ∧ Ls w' oa' m cap' r) ∧ Below w.heap.size w w' := by
  have hB1 : Below w.heap.size w (w.alloc (.cells #[.slice oa m cap] 22)) := (Below.refl _ w).alloc (Nat.le_refl _) _
  refine (sfunc_any w.heap.size oa m cap ds h0 hm (w.alloc (.cells #[.slice oa m cap] 22)) (by simp) (by simp) (hD.below hB1 (Nat.le_refl _))).mono ?_
  rintro e w' ⟨h, B⟩
  exact ⟨h, hB1.trans (B.mono hB1.size)⟩
set_option maxHeartbeats 800000 in
theorem values_is (oa : Option Addr) (m cap : Nat) (w : World) :
    Calls Tryz.prog 71 #[.slice oa m cap] w fun e w' => e = .returned (.func (.func 88) #[] #[.pointer (some ⟨w.heap.size, 0, none⟩)]) ∧ w' = w.alloc (.cells #[.slice oa m cap] 22) := values_any oa m cap w
set_option maxHeartbeats 1600000 in
theorem labSort_any (oa : Option Addr) (n cap : Nat) (l : List L2) (w : World) (h : Ls w oa n cap l) (hn : n ≤ 4611686018427387904) :
    Calls Tryz.prog 47 #[.slice oa n cap] w fun e w' => SortOut w' l e ∧ Below w.heap.size w w' := by
  have hl := h.len
  have HT := pos_any oa n cap l w h (by omega)
  have HF : Hid (sortF l = if posB l = true then (if riseB (sortL l) = true then (sortL l, 0) else ([], 11)) else ([], 1)) := rfl
  cases hb : posB l with
  | false =>
    have HF2 : Hid (sortF l = ([], 1)) := by show _ = _; rw [HF.out, hb]; rfl
    rw [hb] at HT
    clear h hb HF hl
    go_enter Tryz.func47, Tryz.ntmps47
    go_wp2_with fail
    refine HT.mono ?_
    rintro e w1 ⟨rfl, B1⟩
    go_wp2_with fail
    go_ret2
    exact ⟨⟨_, _, _, by rw [HF2.out]; rfl, by rw [HF2.out]; exact Ls.nil _ _ _, Nat.zero_le _⟩, B1⟩
  | true =>
    have h0 : 0 < n := by
      have := hb
      unfold posB at this
      simp at this
      omega
    have hn : n ≤ 70 := by
      have := hb
      unfold posB at this
      simp at this
      omega
    rw [hb] at HT
    have HV := fun W => values_is oa n cap W
    have HS := fun w1 (B1 : Below w.heap.size w w1) => values2_any oa n cap l h0 hn w1 (h.below B1 (Nat.le_refl _))
    have HP := Lib.hid hb
    have HL := Lib.hid hl
    clear h hb hl
    go_enter Tryz.func47, Tryz.ntmps47
    go_wp2_with fail
    refine HT.mono ?_
    rintro e w1 ⟨rfl, B1⟩
    go_wp2_with fail
    refine (HV _).mono ?_
    rintro e w2 ⟨rfl, hw2⟩
    have HS' := HS _ B1
    rw [← hw2] at HS'
    clear hw2 HS
    go_wp2_with fail
    refine HS'.mono ?_
    rintro e w3 ⟨⟨r, oa', cap', rfl, hp, hs, hLs⟩, B3⟩
    have HR := rise_any oa' n cap' r w3 hLs (by omega)
    obtain ⟨q1, q2⟩ := sorted_is hp hs
    have B4 : Below w.heap.size w w3 := B1.trans (B3.mono B1.size)
    have HLs := Lib.hid hLs
    clear hp hs hLs B1 B3 HS'
    cases hr : riseB r with
    | true =>
      rw [hr] at HR
      have HF2 : Hid (sortF l = (r, 0)) := by show _ = _; rw [HF.out, HP.out, ← q1, hr, q2 hr]; rfl
      clear q1 q2 hr
      go_wp2_with fail
      refine HR.mono ?_
      rintro e w5 ⟨rfl, B5⟩
      go_wp2_with fail
      go_ret2
      exact ⟨⟨_, _, _, by rw [HF2.out]; rfl, by rw [HF2.out]; exact HLs.out.below B5 (Nat.le_refl _), by rw [HL.out]; exact Nat.le_refl _⟩, B4.trans (B5.mono B4.size)⟩
    | false =>
      rw [hr] at HR
      have HF2 : Hid (sortF l = ([], 11)) := by show _ = _; rw [HF.out, HP.out, ← q1, hr]; rfl
      clear q1 q2 hr
      go_wp2_with fail
      refine HR.mono ?_
      rintro e w5 ⟨rfl, B5⟩
      go_wp2_with fail
      go_ret2
      exact ⟨⟨_, _, _, by rw [HF2.out]; rfl, by rw [HF2.out]; exact Ls.nil _ _ _, Nat.zero_le _⟩, B4.trans (B5.mono B4.size)⟩
end Go.Proofs.YthncfcjkpcjkiaaGreatDoor
