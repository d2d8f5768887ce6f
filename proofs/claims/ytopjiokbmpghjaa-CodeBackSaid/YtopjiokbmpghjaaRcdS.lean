/-
  The document's own: the same rows of labels and of matchers, the same duties, hushes and records.
-/
import Derived.Test.YtopjiokbmpghjaaRecM
import Derived.Test.YtopjiokbmpghjaaMatE
import Derived.Test.YtopjiokbmpghjaaRcdB
import Derived.StillTailTactics
import Derived.BigRegion
import Derived.RegionTactic
import Derived.Deep.RegionHeld3
import Derived.Deep.DeepCutAuto
import Derived.Deep.QuietTactic
import Derived.BigQuiet
namespace Go.Proofs.Ytopjiokbmpghjaa
open Go.RowKit Go.Shelf
set_option linter.unusedVariables false
set_option linter.unusedSimpArgs false

/-- are two rows the same? -/
def sameR (a b : List L2) : Bool := decide (a = b)
def sameA (a b : List M3) : Bool := decide (a = b)
theorem neqL_any (a b s t : ByteArray) (w : World) (r : Bool) (hr : (a.toList == s.toList && b.toList == t.toList) = r) :
    (binOp .neq 57 (.agg #[.string a, .string b]) (.agg #[.string s, .string t])).run Try.prog w = .ok (.bool (!r)) w := by
  have h := eqlL a b s t w
  rw [hr] at h
  rw [run_eql_struct] at h
  rw [run_neq_struct]
  generalize (Op.equalIn 10000 57 (.agg #[.string a, .string b]) (.agg #[.string s, .string t])).run Try.prog w = r at *
  cases r with
  | ok b w1 =>
    simp [Result.andThen] at h ⊢
    obtain ⟨h1, h2⟩ := h
    exact ⟨by rw [h1], h2⟩
  | halt x w1 => simp [Result.andThen] at h
theorem pair_eq (x y : L2) : (x.1.toList == y.1.toList && x.2.toList == y.2.toList) = decide (x = y) := by
  rw [Bool.eq_iff_iff]
  simp only [Bool.and_eq_true, beq_iff_eq, decide_eq_true_eq]
  constructor
  · rintro ⟨h1, h2⟩
    exact Prod.ext (toList_inj h1) (toList_inj h2)
  · rintro rfl
    exact ⟨rfl, rfl⟩
theorem sameR_len {l m : List L2} (h : l.length ≠ m.length) : sameR l m = false := by
  unfold sameR
  rw [decide_eq_false_iff_not]
  rintro rfl
  exact h rfl
theorem sameR_at {l m : List L2} (k : Nat) (hk : k < l.length) (hk2 : k < m.length) (h : l.getD k zL ≠ m.getD k zL) : sameR l m = false := by
  unfold sameR
  rw [decide_eq_false_iff_not]
  rintro rfl
  exact h rfl
theorem sameR_all {l m : List L2} (hl : l.length = m.length) (h : ∀ i, i < l.length → l.getD i zL = m.getD i zL) : sameR l m = true := by
  unfold sameR
  rw [decide_eq_true_eq]
  apply List.ext_getElem hl
  intro i h1 h2
  have := h i h1
  rwa [getD_L l i h1, getD_L m i h2] at this
set_option maxRecDepth 100000 in
set_option maxHeartbeats 1600000 in
theorem same_any (oa : Option Addr) (n cap : Nat) (ob : Option Addr) (n' cap' : Nat) (l m : List L2) (w : World) (h : Ls w oa n cap l) (h' : Ls w ob n' cap' m) (hn : n ≤ 4611686018427387904) :
    Calls Try.prog 41 #[.slice oa n cap, .slice ob n' cap'] w fun e w' => e = .returned (.bool (sameR l m)) ∧ Below w.heap.size w w' := by
  have hl := h.len
  have hr := h.room
  have hl' := h'.len
  have hr' := h'.room
  by_cases hnn : n = n'
  · subst hnn
    have HL := Lib.hid hl
    have HL' := Lib.hid hl'
    clear hl hl'
    go_enter Try.func41, Try.ntmps41
    go_wp2_with fail
    go_loopw [5, 13] (fun _ s13 wr => ∃ k : Nat, k ≤ n ∧ s13 = .int .i64 k ∧ Below w.heap.size w wr ∧ Hid (∀ i, i < k → l.getD i zL = m.getD i zL)) (fun _ s13 _ => n - (intOf s13).toNat)
    case atStart => exact ⟨0, Nat.zero_le _, rfl, Below.refl _ _, fun i hi => absurd hi (by omega)⟩
    case round =>
      obtain ⟨k, hk, rfl, hB, HA⟩ := hrel
      by_cases hlt : k < n
      · obtain ⟨g, o, rfl, c0, c1⟩ := (h.below hB (Nat.le_refl _)).cell k hlt
        obtain ⟨g', o', rfl, d0, d1⟩ := (h'.below hB (Nat.le_refl _)).cell k hlt
        have HQ := pair_eq (l.getD k zL) (m.getD k zL)
        have HF : Hid (l.getD k zL ≠ m.getD k zL → sameR l m = false) := sameR_at k (by rw [HL.out]; exact hlt) (by rw [HL'.out]; exact hlt)
        have HN : Hid (l.getD k zL = m.getD k zL → ∀ i, i < k + 1 → l.getD i zL = m.getD i zL) := fun e i hi => by
          by_cases e2 : i = k
          · subst e2; exact e
          · exact HA.out i (by omega)
        generalize l.getD k zL = x at *
        generalize m.getD k zL = y at *
        by_cases hxy : x = y
        · have HX := Lib.hid (HN.out hxy)
          rw [decide_eq_true hxy] at HQ
          obtain ⟨s, t⟩ := x
          obtain ⟨u, v⟩ := y
          dsimp only at c0 c1 d0 d1 HQ
          have hq := fun (w : World) => neqL_any s t u v w true HQ
          clear h h' HA HQ HF HN hxy
          go_wp2_with fail
          go_quiet (fail)
          go_wp2_with fail
          go_roundw
          case rel => exact ⟨k + 1, by omega, by go_num, belowN hB _, HX⟩
          case measure => simp [intOf]; omega
        · have HX := Lib.hid (HF.out hxy)
          rw [decide_eq_false hxy] at HQ
          obtain ⟨s, t⟩ := x
          obtain ⟨u, v⟩ := y
          dsimp only at c0 c1 d0 d1 HQ
          have hq := fun (w : World) => neqL_any s t u v w false HQ
          clear h h' HA HQ HF HN hxy
          go_wp2_with fail
          go_quiet (fail)
          go_wp2_with fail
          go_ret
          exact ⟨retB HX.out.symm, belowN hB _⟩
      · obtain rfl : k = n := by omega
        have HX := Lib.hid (sameR_all (by rw [HL.out, HL'.out]) (fun i hi => HA.out i (by rw [HL.out] at hi; exact hi)))
        clear h h' HA
        go_wp2_with fail
        go_ret
        exact ⟨retB HX.out.symm, hB⟩
  · have HX := Lib.hid (sameR_len (l := l) (m := m) (by omega))
    have hne : ((n : Int) != (n' : Int)) = true := by simp; omega
    clear h h' hl hl' hr hr'
    go_enter Try.func41, Try.ntmps41
    go_wp2_with fail
    go_ret
    exact ⟨retB HX.out.symm, Below.refl _ _⟩
theorem neqM_any (j : Int) (a b : ByteArray) (k : Int) (s t : ByteArray) (w : World) (r : Bool) (hr : (j == k && (a.toList == s.toList && b.toList == t.toList)) = r) :
    (binOp .neq 45 (.agg #[.int .i64 j, .string a, .string b]) (.agg #[.int .i64 k, .string s, .string t])).run Try.prog w = .ok (.bool (!r)) w := by
  have h := eqlM j a b k s t w
  rw [hr] at h
  rw [run_eql_struct] at h
  rw [run_neq_struct]
  generalize (Op.equalIn 10000 45 (.agg #[.int .i64 j, .string a, .string b]) (.agg #[.int .i64 k, .string s, .string t])).run Try.prog w = r at *
  cases r with
  | ok b w1 =>
    simp [Result.andThen] at h ⊢
    obtain ⟨h1, h2⟩ := h
    exact ⟨by rw [h1], h2⟩
  | halt x w1 => simp [Result.andThen] at h
theorem trip_eq (x y : M3) : (x.1 == y.1 && (x.2.1.toList == y.2.1.toList && x.2.2.toList == y.2.2.toList)) = decide (x = y) := by
  rw [Bool.eq_iff_iff]
  simp only [Bool.and_eq_true, beq_iff_eq, decide_eq_true_eq]
  constructor
  · rintro ⟨h0, h1, h2⟩
    exact Prod.ext h0 (Prod.ext (toList_inj h1) (toList_inj h2))
  · rintro rfl
    exact ⟨rfl, rfl, rfl⟩
theorem sameA_len {l m : List M3} (h : l.length ≠ m.length) : sameA l m = false := by
  unfold sameA
  rw [decide_eq_false_iff_not]
  rintro rfl
  exact h rfl
theorem sameA_at {l m : List M3} (k : Nat) (hk : k < l.length) (hk2 : k < m.length) (h : l.getD k zM ≠ m.getD k zM) : sameA l m = false := by
  unfold sameA
  rw [decide_eq_false_iff_not]
  rintro rfl
  exact h rfl
theorem sameA_all {l m : List M3} (hl : l.length = m.length) (h : ∀ i, i < l.length → l.getD i zM = m.getD i zM) : sameA l m = true := by
  unfold sameA
  rw [decide_eq_true_eq]
  apply List.ext_getElem hl
  intro i h1 h2
  have := h i h1
  rwa [getD_M l i h1, getD_M m i h2] at this
set_option maxRecDepth 100000 in
set_option maxHeartbeats 1600000 in
theorem same3_any (oa : Option Addr) (n cap : Nat) (ob : Option Addr) (n' cap' : Nat) (l m : List M3) (w : World) (h : Ms w oa n cap l) (h' : Ms w ob n' cap' m) (hn : n ≤ 3074457345618258602) :
    Calls Try.prog 49 #[.slice oa n cap, .slice ob n' cap'] w fun e w' => e = .returned (.bool (sameA l m)) ∧ Below w.heap.size w w' := by
  have hl := h.len
  have hr := h.room
  have hl' := h'.len
  have hr' := h'.room
  by_cases hnn : n = n'
  · subst hnn
    have HL := Lib.hid hl
    have HL' := Lib.hid hl'
    clear hl hl'
    go_enter Try.func49, Try.ntmps49
    go_wp2_with fail
    go_loopw [5, 13] (fun _ s13 wr => ∃ k : Nat, k ≤ n ∧ s13 = .int .i64 k ∧ Below w.heap.size w wr ∧ Hid (∀ i, i < k → l.getD i zM = m.getD i zM)) (fun _ s13 _ => n - (intOf s13).toNat)
    case atStart => exact ⟨0, Nat.zero_le _, rfl, Below.refl _ _, fun i hi => absurd hi (by omega)⟩
    case round =>
      obtain ⟨k, hk, rfl, hB, HA⟩ := hrel
      by_cases hlt : k < n
      · obtain ⟨g, o, rfl, c0, c1, c2⟩ := (h.below hB (Nat.le_refl _)).cell k hlt
        obtain ⟨g', o', rfl, d0, d1, d2⟩ := (h'.below hB (Nat.le_refl _)).cell k hlt
        have HQ := trip_eq (l.getD k zM) (m.getD k zM)
        have HF : Hid (l.getD k zM ≠ m.getD k zM → sameA l m = false) := sameA_at k (by rw [HL.out]; exact hlt) (by rw [HL'.out]; exact hlt)
        have HN : Hid (l.getD k zM = m.getD k zM → ∀ i, i < k + 1 → l.getD i zM = m.getD i zM) := fun e i hi => by
          by_cases e2 : i = k
          · subst e2; exact e
          · exact HA.out i (by omega)
        generalize l.getD k zM = x at *
        generalize m.getD k zM = y at *
        by_cases hxy : x = y
        · have HX := Lib.hid (HN.out hxy)
          rw [decide_eq_true hxy] at HQ
          obtain ⟨p, s, t⟩ := x
          obtain ⟨q, u, v⟩ := y
          dsimp only at c0 c1 c2 d0 d1 d2 HQ
          have hq := fun (w : World) => neqM_any p s t q u v w true HQ
          clear h h' HA HQ HF HN hxy
          go_wp2_with fail
          go_quiet (fail)
          go_wp2_with fail
          go_roundw
          case rel => exact ⟨k + 1, by omega, by go_num, belowN hB _, HX⟩
          case measure => simp [intOf]; omega
        · have HX := Lib.hid (HF.out hxy)
          rw [decide_eq_false hxy] at HQ
          obtain ⟨p, s, t⟩ := x
          obtain ⟨q, u, v⟩ := y
          dsimp only at c0 c1 c2 d0 d1 d2 HQ
          have hq := fun (w : World) => neqM_any p s t q u v w false HQ
          clear h h' HA HQ HF HN hxy
          go_wp2_with fail
          go_quiet (fail)
          go_wp2_with fail
          go_ret
          exact ⟨retB HX.out.symm, belowN hB _⟩
      · obtain rfl : k = n := by omega
        have HX := Lib.hid (sameA_all (by rw [HL.out, HL'.out]) (fun i hi => HA.out i (by rw [HL.out] at hi; exact hi)))
        clear h h' HA
        go_wp2_with fail
        go_ret
        exact ⟨retB HX.out.symm, hB⟩
  · have HX := Lib.hid (sameA_len (l := l) (m := m) (by omega))
    have hne : ((n : Int) != (n' : Int)) = true := by simp; omega
    clear h h' hl hl' hr hr'
    go_enter Try.func49, Try.ntmps49
    go_wp2_with fail
    go_ret
    exact ⟨retB HX.out.symm, Below.refl _ _⟩
theorem sameD_is (a b : D6) : decide (a = b) = (sameR a.ls b.ls && (decide (a.rt = b.rt) && (decide (a.pl = b.pl) && (decide (a.tr = b.tr) && (decide (a.du = b.du) && decide (a.st = b.st)))))) := by
  unfold sameR
  rw [Bool.eq_iff_iff]
  simp only [Bool.and_eq_true, decide_eq_true_eq]
  constructor
  · rintro rfl
    exact ⟨rfl, rfl, rfl, rfl, rfl, rfl⟩
  · rintro ⟨h1, h2, h3, h4, h5, h6⟩
    obtain ⟨a1, a2, a3, a4, a5, a6⟩ := a
    obtain ⟨b1, b2, b3, b4, b5, b6⟩ := b
    dsimp only at *
    subst h1 h2 h3 h4 h5 h6
    rfl
theorem pair_boxes (w : World) (T1 T2 : TypeId) (xs ys : Array Value) :
    Vals ((w.alloc (.cells xs T1)).alloc (.cells ys T2)) w.heap.size T1 xs ∧ Vals ((w.alloc (.cells xs T1)).alloc (.cells ys T2)) (w.heap.size + 1) T2 ys ∧ Below w.heap.size w ((w.alloc (.cells xs T1)).alloc (.cells ys T2)) := by
  have v1 := (Vals.new w T1 xs).alloc (.cells ys T2)
  have v2 := Vals.new (w.alloc (.cells xs T1)) T2 ys
  have b1 := below_alloc w (.cells xs T1)
  have b2 := b1.alloc b1.size (.cells ys T2)
  simp only [World.size_alloc] at v2
  exact ⟨v1, v2, b2⟩
set_option maxRecDepth 100000 in
set_option maxHeartbeats 6400000 in
theorem sameD_any (oa : Option Addr) (n cap : Nat) (ob : Option Addr) (n' cap' : Nat) (a b : D6) (w : World) (h : Ls w oa n cap a.ls) (h' : Ls w ob n' cap' b.ls) (hn : n ≤ 4611686018427387904) :
    Calls Try.prog 26 #[aggD oa n cap a, aggD ob n' cap' b] w fun e w' => e = .returned (.bool (decide (a = b))) ∧ Below w.heap.size w w' := by
  have HQ := Lib.hid (sameD_is a b)
  obtain ⟨R, hR⟩ : ∃ R, Hid (decide (a = b) = R) := ⟨_, rfl⟩
  rw [hR.out] at HQ
  rw [hR.out]
  clear hR
  obtain ⟨al, a1, a2, a3, a4, a5⟩ := a
  obtain ⟨bl, b1, b2, b3, b4, b5⟩ := b
  dsimp only [aggD, dV] at *
  obtain ⟨Vx, Vy, B0⟩ := pair_boxes w 24 24 #[.slice oa n cap, .int .i64 a1, .int .i64 a2, .int .i64 a3, .int .i64 a4, .int .i64 a5] #[.slice ob n' cap', .int .i64 b1, .int .i64 b2, .int .i64 b3, .int .i64 b4, .int .i64 b5]
  have HS := same_any oa n cap ob n' cap' al bl _ (h.below B0 (Nat.le_refl _)) (h'.below B0 (Nat.le_refl _)) hn
  clear h h'
  go_enter Try.func26, Try.ntmps26
  go_upto_region 1 with fail
  generalize (w.alloc _).alloc _ = w1 at *
  have x0 : w1.cell? ⟨w.heap.size, 0, none⟩ = some (.slice oa n cap) := Vx.cell 0
  have y0 : w1.cell? ⟨w.heap.size + 1, 0, none⟩ = some (.slice ob n' cap') := Vy.cell 0
  generalize sameR al bl = S at *
  go_wp2_with fail
  refine HS.mono ?_
  rintro e w2 ⟨rfl, B1⟩
  have Wx := Vx.keep B1 (Nat.le_refl _)
  have Wy := Vy.keep B1 (Nat.le_refl _)
  have B2 := B0.trans (B1.mono B0.size)
  clear x0 y0 Vx Vy B0 B1 HS
  have x1 : w2.cell? ⟨w.heap.size, 1, none⟩ = some (.int .i64 a1) := Wx.cell 1
  have y1 : w2.cell? ⟨w.heap.size + 1, 1, none⟩ = some (.int .i64 b1) := Wy.cell 1
  have x2 : w2.cell? ⟨w.heap.size, 2, none⟩ = some (.int .i64 a2) := Wx.cell 2
  have y2 : w2.cell? ⟨w.heap.size + 1, 2, none⟩ = some (.int .i64 b2) := Wy.cell 2
  have x3 : w2.cell? ⟨w.heap.size, 3, none⟩ = some (.int .i64 a3) := Wx.cell 3
  have y3 : w2.cell? ⟨w.heap.size + 1, 3, none⟩ = some (.int .i64 b3) := Wy.cell 3
  have x4 : w2.cell? ⟨w.heap.size, 4, none⟩ = some (.int .i64 a4) := Wx.cell 4
  have y4 : w2.cell? ⟨w.heap.size + 1, 4, none⟩ = some (.int .i64 b4) := Wy.cell 4
  have x5 : w2.cell? ⟨w.heap.size, 5, none⟩ = some (.int .i64 a5) := Wx.cell 5
  have y5 : w2.cell? ⟨w.heap.size + 1, 5, none⟩ = some (.int .i64 b5) := Wy.cell 5
  clear Wx Wy
  cases S with
  | false =>
    go_wp2_with fail
    go_ret
    exact ⟨retB (by rw [HQ.out]; rfl), B2⟩
  | true =>
    by_cases h1 : a1 = b1
    · have e1 : (a1 == b1) = true := by simp [h1]
      by_cases h2 : a2 = b2
      · have e2 : (a2 == b2) = true := by simp [h2]
        by_cases h3 : a3 = b3
        · have e3 : (a3 == b3) = true := by simp [h3]
          by_cases h4 : a4 = b4
          · have e4 : (a4 == b4) = true := by simp [h4]
            by_cases h5 : a5 = b5
            · have e5 : (a5 == b5) = true := by simp [h5]
              go_wp2_with fail
              go_ret
              exact ⟨retB (by rw [HQ.out]; simp [h1, h2, h3, h4, h5]), B2⟩
            · have e5 : (a5 == b5) = false := by simp [h5]
              go_wp2_with fail
              go_ret
              exact ⟨retB (by rw [HQ.out]; simp [h5]), B2⟩
          · have e4 : (a4 == b4) = false := by simp [h4]
            go_wp2_with fail
            go_ret
            exact ⟨retB (by rw [HQ.out]; simp [h4]), B2⟩
        · have e3 : (a3 == b3) = false := by simp [h3]
          go_wp2_with fail
          go_ret
          exact ⟨retB (by rw [HQ.out]; simp [h3]), B2⟩
      · have e2 : (a2 == b2) = false := by simp [h2]
        go_wp2_with fail
        go_ret
        exact ⟨retB (by rw [HQ.out]; simp [h2]), B2⟩
    · have e1 : (a1 == b1) = false := by simp [h1]
      go_wp2_with fail
      go_ret
      exact ⟨retB (by rw [HQ.out]; simp [h1]), B2⟩
def sameH (f t f' t' : Int) (a b : List M3) : Bool := decide (f = f') && (decide (t = t') && sameA a b)
set_option maxRecDepth 100000 in
set_option maxHeartbeats 6400000 in
theorem sameH_any (f t : Int) (ob : Option Addr) (nb cb : Nat) (f' t' : Int) (od : Option Addr) (nd cd : Nat) (ms ms' : List M3) (w : World) (h : Ms w ob nb cb ms) (h' : Ms w od nd cd ms') (hn : nb ≤ 3074457345618258602) :
    Calls Try.prog 27 #[.agg #[.int .i64 f, .int .i64 t, .slice ob nb cb], .agg #[.int .i64 f', .int .i64 t', .slice od nd cd]] w fun e w' => e = .returned (.bool (sameH f t f' t' ms ms')) ∧ Below w.heap.size w w' := by
  have HQ : Hid (sameH f t f' t' ms ms' = (decide (f = f') && (decide (t = t') && sameA ms ms'))) := rfl
  obtain ⟨Vx, Vy, B0⟩ := pair_boxes w 27 27 #[.int .i64 f, .int .i64 t, .slice ob nb cb] #[.int .i64 f', .int .i64 t', .slice od nd cd]
  have HS := same3_any ob nb cb od nd cd ms ms' _ (h.below B0 (Nat.le_refl _)) (h'.below B0 (Nat.le_refl _)) hn
  generalize sameH f t f' t' ms ms' = R at *
  generalize sameA ms ms' = S at *
  clear h h'
  go_enter Try.func27, Try.ntmps27
  go_upto_region 1 with fail
  generalize (w.alloc _).alloc _ = w1 at *
  have x0 : w1.cell? ⟨w.heap.size, 0, none⟩ = some (.int .i64 f) := Vx.cell 0
  have x1 : w1.cell? ⟨w.heap.size, 1, none⟩ = some (.int .i64 t) := Vx.cell 1
  have x2 : w1.cell? ⟨w.heap.size, 2, none⟩ = some (.slice ob nb cb) := Vx.cell 2
  have y0 : w1.cell? ⟨w.heap.size + 1, 0, none⟩ = some (.int .i64 f') := Vy.cell 0
  have y1 : w1.cell? ⟨w.heap.size + 1, 1, none⟩ = some (.int .i64 t') := Vy.cell 1
  have y2 : w1.cell? ⟨w.heap.size + 1, 2, none⟩ = some (.slice od nd cd) := Vy.cell 2
  clear Vx Vy
  by_cases h1 : f = f'
  · by_cases h2 : t = t'
    · have e1 : (f == f') = true := by simp [h1]
      have e2 : (t == t') = true := by simp [h2]
      go_wp2_with fail
      refine HS.mono ?_
      rintro e w2 ⟨rfl, B1⟩
      go_wp2_with fail
      go_ret
      exact ⟨retB (by rw [HQ.out]; simp [h1, h2]), B0.trans (B1.mono B0.size)⟩
    · have e1 : (f == f') = true := by simp [h1]
      have e2 : (t == t') = false := by simp [h2]
      clear HS
      go_wp2_with fail
      go_ret
      exact ⟨retB (by rw [HQ.out]; simp [h2]), B0⟩
  · have e1 : (f == f') = false := by simp [h1]
    clear HS
    go_wp2_with fail
    go_ret
    exact ⟨retB (by rw [HQ.out]; simp [h1]), B0⟩
end Go.Proofs.Ytopjiokbmpghjaa
