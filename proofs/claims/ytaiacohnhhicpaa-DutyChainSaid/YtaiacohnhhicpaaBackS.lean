/-
  A back's step n, and its wait: package backoff's own.
-/
import Derived.Test.YtaiacohnhhicpaaBackI
namespace Go.Proofs.Ytaiacohnhhicpaa.Bo
open Go.RowKit Go.Shelf
attribute [local go_sem] Oper.semAt_some
set_option linter.unusedVariables false

theorem has_yes {B T J n : Int} (h : Bk B T J) (hn : 0 ≤ n) : hasB B T J n = true := by
  unfold hasB
  rw [back_mk h, decide_eq_true hn]
  rfl
/-- the back's box -/
structure Bx (w : World) (A : Nat) (B T J : Int) : Prop where
  lt : A < w.heap.size
  c0 : w.cell? ⟨A, 0, none⟩ = some (.int .i64 B)
  c1 : w.cell? ⟨A, 1, none⟩ = some (.int .i64 T)
  c2 : w.cell? ⟨A, 2, none⟩ = some (.int .i64 J)
theorem Bx.new (w : World) (B T J : Int) (t : TypeId) : Bx (w.alloc (.cells #[.int .i64 B, .int .i64 T, .int .i64 J] t)) w.heap.size B T J :=
  ⟨by simp, by rw [World.cell?_alloc_new]; rfl, by rw [World.cell?_alloc_new]; rfl, by rw [World.cell?_alloc_new]; rfl⟩
theorem Bx.below {w w1 : World} {A n : Nat} {B T J : Int} (h : Bx w A B T J) (hB : Below n w w1) (hn : w.heap.size ≤ n) : Bx w1 A B T J :=
  have hl := h.lt
  have hs := hB.size
  ⟨Nat.lt_of_lt_of_le h.lt hs, (hB.cell (p := ⟨A, 0, none⟩) (Nat.lt_of_lt_of_le hl hn)).trans h.c0, (hB.cell (p := ⟨A, 1, none⟩) (Nat.lt_of_lt_of_le hl hn)).trans h.c1, (hB.cell (p := ⟨A, 2, none⟩) (Nat.lt_of_lt_of_le hl hn)).trans h.c2⟩
/-- a box of one number -/
structure Nx (w : World) (A : Nat) (x : Int) : Prop where
  c0 : w.cell? ⟨A, 0, none⟩ = some (.int .i64 x)
  fr : w.frozen? ⟨A, 0, none⟩ = false
theorem Nx.lt {w : World} {A : Nat} {x : Int} (h : Nx w A x) : A < w.heap.size := World.block_lt_of_cell? w _ h.c0
theorem Nx.new (w : World) (x : Int) (t : TypeId) : Nx (w.alloc (.cells #[.int .i64 x] t)) w.heap.size x :=
  ⟨by rw [World.cell?_alloc_new]; rfl, by simp⟩
theorem Nx.below {w w1 : World} {A n : Nat} {x : Int} (h : Nx w A x) (hB : Below n w w1) (hn : w.heap.size ≤ n) : Nx w1 A x :=
  ⟨(hB.cell (p := ⟨A, 0, none⟩) (Nat.lt_of_lt_of_le h.lt hn)).trans h.c0, (hB.frozen (p := ⟨A, 0, none⟩) (Nat.lt_of_lt_of_le h.lt hn)).trans h.fr⟩
theorem Nx.kept {W W' : World} {A : Nat} {x : Int} {row : Option Nat} (h : Nx W A x) (hg : W.grownBy W' row) (hrow : ∀ r, row = some r → ∃ o : Obj, W.heap[r]? = some o ∧ o.isCells = false) : Nx W' A x :=
  ⟨cell_kept h.c0 hg hrow, (frozen_kept h.c0 hg hrow).trans h.fr⟩
theorem Nx.set {w : World} {A : Nat} {x : Int} (h : Nx w A x) (y : Int) : Nx (w.setCell ⟨A, 0, none⟩ (.int .i64 y)) A y :=
  ⟨World.cell?_setCell_same' _ _ _ (by rw [h.c0]; rfl), by rw [World.frozen?_setCell]; exact h.fr⟩
theorem Nx.other {w : World} {A C : Nat} {x : Int} (h : Nx w A x) (hne : A ≠ C) (u : Value) : Nx (w.setCell ⟨C, 0, none⟩ u) A x :=
  ⟨(World.cell?_of_block (w := w) (Below.heap_setCell w ⟨C, 0, none⟩ u A hne)).trans h.c0, by rw [World.frozen?_setCell]; exact h.fr⟩
theorem Bx.kept {W W' : World} {A : Nat} {B T J : Int} {row : Option Nat} (h : Bx W A B T J) (hg : W.grownBy W' row) (hrow : ∀ r, row = some r → ∃ o : Obj, W.heap[r]? = some o ∧ o.isCells = false) : Bx W' A B T J :=
  have hc := cell_kept h.c0 hg hrow
  ⟨World.block_lt_of_cell? W' _ hc, hc, cell_kept h.c1 hg hrow, cell_kept h.c2 hg hrow⟩
theorem Bx.other {w : World} {A C : Nat} {B T J : Int} (h : Bx w A B T J) (hne : A ≠ C) (u : Value) : Bx (w.setCell ⟨C, 0, none⟩ u) A B T J :=
  have hk := fun i => World.cell?_of_block (w := w) (a := ⟨A, i, none⟩) (Below.heap_setCell w ⟨C, 0, none⟩ u A hne)
  have hc := (hk 0).trans h.c0
  ⟨World.block_lt_of_cell? _ _ hc, hc, (hk 1).trans h.c1, (hk 2).trans h.c2⟩
/-- the last one's step -/
def lastS (l : List (Int × Int)) : Int := (l.getLast?.map (·.2)).getD 0
theorem lastS_next (l : List (Int × Int)) (x : Int × Int) : lastS (l ++ [x]) = x.2 := by simp [lastS]
theorem done_val {B T n : Int} {K : Nat} (hT : 0 ≤ T) (hn : 0 ≤ n) (h : stepN B T K = T) (hne : ∀ p ∈ upto (stP B T) (K + 1), p.1 ≠ n) : lastS (upto (stP B T) (K + 1)) = stepN B T n.toNat := by
  rw [upto_next, lastS_next]
  show stepN B T K = _
  have hk : K ≤ n.toNat := by
    rcases Nat.lt_or_ge n.toNat K with hlt | hge
    · refine absurd ?_ (hne (stP B T n.toNat) ?_)
      · show ((n.toNat : Nat) : Int) = n
        omega
      · unfold upto
        exact List.mem_map.2 ⟨n.toNat, List.mem_range.2 (by omega), rfl⟩
    · exact hge
  rw [stepN_from hT h hk, h]
theorem stop_val {B T n : Int} {k : Nat} {q : List (Int × Int)} {x : Int × Int} (hq : upto (stP B T) k = q ++ [x]) (hx : x.1 = n) : lastS (upto (stP B T) k) = stepN B T n.toNat := by
  cases k with
  | zero => simp [upto] at hq
  | succ k =>
    rw [upto_next] at hq ⊢
    rw [lastS_next]
    have := (List.append_inj' hq rfl).2
    simp only [List.cons.injEq, and_true] at this
    rw [← this] at hx
    show stepN B T k = _
    have e : n.toNat = k := by
      have : ((k : Nat) : Int) = n := hx
      omega
    rw [e]
theorem box2 {w w1 : World} {B T J n : Int} {s t : TypeId} (h : Below ((w.alloc (.cells #[.int .i64 B, .int .i64 T, .int .i64 J] s)).alloc (.cells #[.int .i64 n] t)).heap.size ((w.alloc (.cells #[.int .i64 B, .int .i64 T, .int .i64 J] s)).alloc (.cells #[.int .i64 n] t)) w1) :
    Below w.heap.size w w1 ∧ Bx w1 w.heap.size B T J ∧ Nx w1 (w.heap.size + 1) n := by
  have hb := (Bx.new w B T J s).below (below_alloc _ (.cells #[.int .i64 n] t)) (Nat.le_refl _)
  have hi := Nx.new (w.alloc (.cells #[.int .i64 B, .int .i64 T, .int .i64 J] s)) n t
  rw [World.size_alloc] at hi
  refine ⟨((below_alloc w _).trans ((below_alloc _ _).mono (by simp))).trans (h.mono (by simp; omega)), hb.below h (Nat.le_refl _), hi.below h (Nat.le_refl _)⟩
theorem box3 {w0 w1 w2 : World} {A : Nat} {B T J n : Int} {s t : TypeId} (h : w2 = (w1.alloc (.cells #[.int .i64 0] s)).alloc (.cells #[.int .i64 B, .int .i64 T, .int .i64 J] t))
    (hB : Below w0.heap.size w0 w1) (hn : Nx w1 A n) :
    Below w0.heap.size w0 w2 ∧ w2.heap.size = w1.heap.size + 2 ∧ w0.heap.size ≤ w1.heap.size ∧ Bx w2 (w1.heap.size + 1) B T J ∧ Nx w2 A n ∧ Nx w2 w1.heap.size 0 := by
  subst h
  have hs := hB.size
  have hb := Bx.new (w1.alloc (.cells #[.int .i64 0] s)) B T J t
  rw [World.size_alloc] at hb
  have hi := Nx.new w1 0 s
  have k1 : Below w1.heap.size w1 (w1.alloc (.cells #[.int .i64 0] s)) := below_alloc _ _
  have k2 := below_alloc (w1.alloc (.cells #[.int .i64 0] s)) (.cells #[.int .i64 B, .int .i64 T, .int .i64 J] t)
  refine ⟨hB.trans ((k1.mono hs).trans (k2.mono (by simp; omega))), by simp, hs, hb, (hn.below k1 (Nat.le_refl _)).below k2 (Nat.le_refl _), hi.below k2 (Nat.le_refl _)⟩
set_option maxRecDepth 100000 in
set_option maxHeartbeats 2000000 in
theorem step_yes (B T J n : Int) (w : World) (h : Bk B T J) (hn : 0 ≤ n) :
    Calls Try.prog 17 #[.agg #[.int .i64 B, .int .i64 T, .int .i64 J], .int .i64 n] w fun e w' => e = .returned (.tuple #[.int .i64 (stepN B T n.toNat), .int .i64 0]) ∧ Below w.heap.size w w' := by
  have HH := Lib.hid (has_yes h hn)
  refine callsIn_wide.1 (callsIn_of_wp_marks (n := 3) Try.func17 rfl trivial (wpIn_wide.2 ?_) rfl)
  simp only [Try.ntmps17, List.size_toArray, List.length_cons, List.length_nil, Nat.reduceAdd, Nat.reduceSub, Array.replicate_succ, Array.replicate_zero, List.push_toArray, List.append_toArray, List.nil_append, List.cons_append]
  go_wp2_with fail
  refine (has_is _ _ _ _ true _ HH.out).mono ?_
  rintro e w1 ⟨rfl, B1⟩
  obtain ⟨hB1, hb1, hn1⟩ := box2 B1
  clear B1
  have c0 := hb1.c0
  have c1 := hb1.c1
  have c2 := hb1.c2
  have c3 := hn1.c0
  have c3' := hn1.fr
  have lt0 := hb1.lt
  have lt1 := hn1.lt
  go_wp2_with fail
  refine (steps_any B T J _).mono ?_
  rintro e w2 ⟨rfl, hw2⟩
  obtain ⟨hB2, hsz, hlt, hb2, hn2, hl2⟩ := box3 hw2 hB1 hn1
  clear hw2 c0 c1 c2 c3 c3' hb1 hn1 hB1 lt0
  rw [World.size_alloc]
  generalize w1.heap.size = L at *
  clear w1
  go_wp2_with fail
  refine wpIn_wide.1 (wpIn_rangeFunc_ownF (n := 3) (w0 := w2) rfl (by omega) (gf := 46) (lb := #[.pointer (some ⟨L + 1, 0, none⟩)]) rfl trivial (enters_of Try.func46 (by kernel_rfl) rfl)
    (steps_stops (3 - 1) (by omega) (L + 1) B T J h w2 (by omega) hb2.c0 hb2.c1) (fun h k => h.trans k) (fun W l o o' hl _ _ _ => KeepB.put (w := w2) (by omega) W l o o' hl) (Below.refl _ _) (fun _ => rfl)
    (fun pre W => (Nx W (w.heap.size + 1) n ∧ Nx W L (lastS pre) ∧ ∀ p ∈ pre, p.1 ≠ n) ∧ Below w.heap.size w W)
    (fun c pre W => (c = .exit 0 ∧ Nx W L (lastS pre) ∧ ∃ (q : List (Int × Int)) (x : Int × Int), pre = q ++ [x] ∧ x.1 = n) ∧ Below w.heap.size w W)
    (OwnFrom.and (Own.from (fun s A B row hs hg hr => ⟨hs.1.kept hg hr, hs.2.1.kept hg hr, hs.2.2⟩) _) (ownFrom_below (Nat.le_refl _) (by omega)))
    (fun c => OwnFrom.and (Own.from (fun s A B row hs hg hr => ⟨hs.1, hs.2.1.kept hg hr, hs.2.2⟩) _) (ownFrom_below (Nat.le_refl _) (by omega)))
    ⟨⟨hn2, hl2, by simp⟩, hB2⟩
    (fun x => { tmps := #[.agg #[.int .i64 B, .int .i64 T, .int .i64 J], .int .i64 n, .pointer (some ⟨w.heap.size, 0, none⟩), .pointer (some ⟨w.heap.size + 1, 0, none⟩), .int .i64 0, .int .i64 0, .pointer (some ⟨L, 0, none⟩), .int .i64 x.1, .int .i64 x.2,
      .agg #[.int .i64 B, .int .i64 T, .int .i64 J], .int .i64 n, .bool true, .bool false, .agg #[.int .i64 B, .int .i64 T, .int .i64 J], .func (.func 46) #[] #[.pointer (some ⟨L + 1, 0, none⟩)], .int .i64 x.1, .int .i64 x.2, undef, undef, undef, undef, undef], defers := [] }) ?assign ?body ?done ?stop)
  case assign =>
    intro l x W K hK
    gi_wp2
    exact hK
  case body =>
    rintro l pre ⟨i, s⟩ W ⟨⟨hn3, hl3, hne⟩, hB⟩ _
    have e0 := hn3.c0
    have e1 := hl3.c0
    have e2 := hl3.fr
    by_cases hi : i = n
    · subst hi
      gi_wp2
      exact ⟨KeepsOthers.setCell _ _ _, ⟨rfl, by rw [lastS_next]; exact hl3.set _, _, _, rfl, rfl⟩, hB.setCell (p := ⟨L, 0, none⟩) (by simp; omega) _⟩
    · gi_wp2
      exact ⟨KeepsOthers.setCell _ _ _, KeepB.set _ _ _ (by omega), ⟨hn3.other (by omega) _, by rw [lastS_next]; exact hl3.set _, fun p hp => (List.mem_append.1 hp).elim (hne p) (fun e => by simp at e; subst e; exact hi)⟩, hB.setCell (p := ⟨L, 0, none⟩) (by simp; omega) _⟩
  case done =>
    rintro D xs W hD ⟨K, hK1, hK2, rfl⟩ ⟨⟨hn3, hl3, hne⟩, hB⟩ hK
    have e1 := hl3.c0
    have HV := Lib.hid (done_val (by have := h.b1; have := h.t1; omega) hn hK1 hne)
    clear hne hK1
    go_wp2
    refine ⟨by simp, .inl ⟨_, _, rfl, run_takeDeferred hK, ?_⟩⟩
    refine ⟨_, results_tmp2 rfl _ _ _, ?_, ?_⟩
    · exact ret2 HV.out
    exact hB.trans (belowK_b (w := w) (Nat.le_refl _) W D _ _ (by omega) hK rfl rfl)
  case stop =>
    rintro D c pre W hD ⟨k, hk, rfl⟩ ⟨⟨rfl, hl3, q, x, hq, hx⟩, hB⟩ hK
    have e1 := hl3.c0
    refine wpIn_wide.2 ?_
    have HV := Lib.hid (stop_val hq hx)
    clear hq hx
    generalize upto (stP B T) k = l at *
    go_wp2
    refine ⟨by simp, .inl ⟨_, _, rfl, run_takeDeferred hK, ?_⟩⟩
    refine ⟨_, results_tmp2 rfl _ _ _, ?_, ?_⟩
    · exact ret2 HV.out
    exact hB.trans (belowK_b (w := w) (Nat.le_refl _) W D _ _ (by omega) hK rfl rfl)
set_option maxHeartbeats 800000 in
theorem step_no (B T J n : Int) (w : World) (h : hasB B T J n = false) :
    Calls Try.prog 17 #[.agg #[.int .i64 B, .int .i64 T, .int .i64 J], .int .i64 n] w fun e w' => e = .returned (.tuple #[.int .i64 0, .int .i64 1]) ∧ Below w.heap.size w w' := by
  have HH := Lib.hid h
  clear h
  go_enter Try.func17, Try.ntmps17
  go_wp2_with fail
  refine (has_is _ _ _ _ false _ HH.out).mono ?_
  rintro e w1 ⟨rfl, B1⟩
  obtain ⟨hB1, hb1, hn1⟩ := box2 B1
  clear B1
  go_wp2
  go_ret2
  exact ⟨rfl, hB1⟩
theorem step_is (B T J n r : Int) (w : World) (hr : r = stepN B T n.toNat) (h : Bk B T J) (hn : 0 ≤ n) :
    Calls Try.prog 17 #[.agg #[.int .i64 B, .int .i64 T, .int .i64 J], .int .i64 n] w fun e w' => e = .returned (.tuple #[.int .i64 r, .int .i64 0]) ∧ Below w.heap.size w w' := by subst hr; exact step_yes B T J n w h hn
theorem part_is (B T J d r : Int) (w : World) (hr : r = partT J d) (h : Bk B T J) :
    Calls Try.prog 64 #[.agg #[.int .i64 B, .int .i64 T, .int .i64 J], .int .i64 d] w fun e w' => e = .returned (.int .i64 r) ∧ Below w.heap.size w w' := by subst hr; exact part_any B T J d w h

theorem box1 {w w1 : World} {B T J : Int} {s : TypeId} (h : Below (w.alloc (.cells #[.int .i64 B, .int .i64 T, .int .i64 J] s)).heap.size (w.alloc (.cells #[.int .i64 B, .int .i64 T, .int .i64 J] s)) w1) :
    Below w.heap.size w w1 ∧ Bx w1 w.heap.size B T J :=
  ⟨(below_alloc w _).trans (h.mono (by simp)), (Bx.new w B T J s).below h (Nat.le_refl _)⟩
/-- a back's step n, and the draw's part of its jitter -/
def waitT (B T J n d : Int) : Int := stepN B T n.toNat + partT J d
set_option maxHeartbeats 800000 in
theorem wait_yes (B T J n d : Int) (w : World) (h : Bk B T J) (hn : 0 ≤ n) :
    Calls Try.prog 47 #[.agg #[.int .i64 B, .int .i64 T, .int .i64 J], .int .i64 n, .int .i64 d] w fun e w' => e = .returned (.tuple #[.int .i64 (waitT B T J n d), .int .i64 0]) ∧ Below w.heap.size w w' := by
  obtain ⟨s, hs⟩ : ∃ s, Hid (s = stepN B T n.toNat) := ⟨_, rfl⟩
  obtain ⟨p, hp⟩ : ∃ p, Hid (p = partT J d) := ⟨_, rfl⟩
  have hb1 := h.b1
  have ht1 := h.t1
  have ht2 := h.t2
  have hj1 := h.j1
  have hj2 := h.j2
  obtain ⟨s0, s1⟩ := stepN_range (B := B) (T := T) (by omega) ht1 n.toNat
  rw [← hs.out] at s0 s1
  have p0 := part_nn hj1 d
  have p1 := part_le hj1 d
  rw [← hp.out] at p0 p1
  have HA : Hid (waitT B T J n d = addT s p) := by
    show _ = _
    unfold waitT addT
    rw [← hs.out, ← hp.out, if_neg (by omega)]
  go_enter Try.func47, Try.ntmps47
  go_wp2_with fail
  refine (step_is _ _ _ _ s _ hs.out h hn).mono ?_
  rintro e w1 ⟨rfl, B1⟩
  obtain ⟨hB1, hb1⟩ := box1 B1
  clear B1
  have c0 := hb1.c0
  have c1 := hb1.c1
  have c2 := hb1.c2
  go_wp2_with fail
  refine (part_is _ _ _ _ p _ hp.out h).mono ?_
  rintro e w2 ⟨rfl, B2⟩
  go_wp2_with fail
  refine (add_is _ _ (waitT B T J n d) _ HA.out (by omega) (by omega) (by omega) (by omega)).mono ?_
  rintro e w3 ⟨rfl, B3⟩
  go_wp2
  go_ret2
  exact ⟨rfl, (hB1.trans (B2.mono hB1.size)).trans (B3.mono (Nat.le_trans hB1.size B2.size))⟩
set_option maxHeartbeats 800000 in
theorem wait_no (B T J n d : Int) (w : World) (h : hasB B T J n = false) :
    Calls Try.prog 47 #[.agg #[.int .i64 B, .int .i64 T, .int .i64 J], .int .i64 n, .int .i64 d] w fun e w' => e = .returned (.tuple #[.int .i64 0, .int .i64 1]) ∧ Below w.heap.size w w' := by
  have HH := Lib.hid h
  clear h
  go_enter Try.func47, Try.ntmps47
  go_wp2_with fail
  refine (step_no _ _ _ _ _ HH.out).mono ?_
  rintro e w1 ⟨rfl, B1⟩
  obtain ⟨hB1, hb1⟩ := box1 B1
  clear B1
  go_wp2
  go_ret2
  exact ⟨rfl, hB1⟩
end Go.Proofs.Ytaiacohnhhicpaa.Bo
