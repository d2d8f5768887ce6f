/-
  A back's first n steps together: package backoff's own.
-/
import Derived.Test.YtnapnegjdagcpaaBackS
import Derived.Deep.RegionHeld3
namespace Go.Proofs.Ytnapnegjdagcpaa
open Go.RowKit Go.Shelf
attribute [local go_sem] Oper.semAt_some
set_option linter.unusedVariables false

theorem tops_is (B T J n r : Int) (w : World) (hr : r = mulT T n) (h : Bk B T J) (hn : 0 ≤ n) :
    Calls Try.prog 19 #[.agg #[.int .i64 B, .int .i64 T, .int .i64 J], .int .i64 n] w fun e w' => e = .returned (.int .i64 r) ∧ Below w.heap.size w w' := by subst hr; exact tops_any B T J n w h hn
theorem keepC {w w' : World} {a : Addr} {v : Value} (hB : Below w.heap.size w w') (h : w.cell? a = some v) : w'.cell? a = some v :=
  (hB.cell (World.block_lt_of_cell? w _ h)).trans h
theorem below_undrew {n : Nat} {w w' : World} (h : Below w.drew.heap.size w.drew w') (hn : n ≤ w.heap.size) : Below n w w' :=
  ((Below.refl n w).drew).trans (h.mono hn)
/-- the steps that came, together -/
def sumP : List (Int × Int) → Int
  | [] => 0
  | x :: l => x.2 + sumP l
theorem sumP_next (l : List (Int × Int)) (x : Int × Int) : sumP (l ++ [x]) = sumP l + x.2 := by
  induction l with
  | nil => simp [sumP]
  | cons y l ih => simp only [List.cons_append, sumP, ih]; omega
theorem sumP_steps (B T : Int) (k : Nat) : sumP (upto (stP B T) k) = sumN B T k := by
  induction k with
  | zero => rfl
  | succ k ih => rw [upto_next, sumP_next, ih]; rfl
/-- all of a row in numbers of 64 bits -/
def sumW (l : List (Int × Int)) : Int := wrap64 (sumP l)
theorem sumW_next (l : List (Int × Int)) (x : Int × Int) : sumW (l ++ [x]) = wrap64 (sumW l + x.2) := by
  unfold sumW
  rw [sumP_next]
  unfold wrap64
  omega
theorem sumW_is {B T J : Int} (h : Bk B T J) {k : Nat} (hk : k ≤ 33) : sumW (upto (stP B T) k) = sumN B T k ∧ 0 ≤ sumN B T k ∧ sumN B T k ≤ 1099511627776 := by
  have h1 := h.b1
  have h2 := h.t1
  have h3 := sumN_nn (B := B) (T := T) (by omega) h2 k
  have h4 := sumN_le (B := B) (T := T) (by omega) h2 h.t2 k
  unfold sumW
  rw [sumP_steps]
  unfold wrap64
  omega
theorem all_done {B T J n : Int} (h : Bk B T J) {k : Nat} (hk : k ≤ 33) (ht : stepN B T k = T) (hn : (k : Int) ≤ n) : addT (sumN B T k) (mulT T (n - k)) = allT B T n.toNat := by
  have h1 := h.b1
  have h2 := h.t1
  have e := sumN_top (B := B) (T := T) (by omega) ht (n.toNat - k)
  rw [show k + (n.toNat - k) = n.toNat from by omega, show ((n.toNat - k : Nat) : Int) = n - k from by omega] at e
  have h3 := sumN_nn (B := B) (T := T) (by omega) h2 k
  have h4 := (sumW_is h hk).2.2
  have h5 : 0 ≤ T * (n - k) := Int.mul_nonneg (by omega) (by omega)
  unfold addT mulT allT
  rw [e]
  (repeat' split) <;> omega
theorem all_stop {B T : Int} {k : Nat} (h : sumN B T k ≤ 1099511627776) : addT (sumN B T k) (mulT T 0) = allT B T k := by
  have e : mulT T 0 = 0 := by unfold mulT; simp
  rw [e]
  unfold addT allT
  (repeat' split) <;> omega
/-- what lies in memory while the steps come -/
structure AllV (w : World) (A L : Nat) (B T J s m : Int) : Prop where
  b : Bx w A B T J
  s : Nx w L s
  m : Nx w (L + 1) m
theorem AllV.kept {W W' : World} {A L : Nat} {B T J s m : Int} {row : Option Nat} (h : AllV W A L B T J s m) (hg : W.grownBy W' row) (hrow : ∀ r, row = some r → ∃ o : Obj, W.heap[r]? = some o ∧ o.isCells = false) : AllV W' A L B T J s m :=
  ⟨h.b.kept hg hrow, h.s.kept hg hrow, h.m.kept hg hrow⟩
theorem AllV.set {w : World} {A L : Nat} {B T J s m : Int} (h : AllV w A L B T J s m) (hA : A < L) (x y : Int) : AllV ((w.setCell ⟨L, 0, none⟩ (.int .i64 x)).setCell ⟨L + 1, 0, none⟩ (.int .i64 y)) A L B T J x y :=
  ⟨(h.b.other (by omega) _).other (by omega) _, (h.s.set x).other (by omega) _, (h.m.other (by omega) _).set y⟩

/-- where a round left: n of them had come, and one more -/
def AllX (A L : Nat) (B T J n : Int) (pre : List (Int × Int)) (W : World) : Prop :=
  ∃ (q : List (Int × Int)) (x : Int × Int), pre = q ++ [x] ∧ (q.length : Int) = n ∧ AllV W A L B T J (sumW q) 0
theorem AllX.kept {W W' : World} {A L : Nat} {B T J n : Int} {pre : List (Int × Int)} {row : Option Nat} (h : AllX A L B T J n pre W) (hg : W.grownBy W' row) (hrow : ∀ r, row = some r → ∃ o : Obj, W.heap[r]? = some o ∧ o.isCells = false) : AllX A L B T J n pre W' := by
  obtain ⟨q, x, h1, h2, h3⟩ := h
  exact ⟨q, x, h1, h2, h3.kept hg hrow⟩
theorem AllX.steps {W : World} {A L k : Nat} {B T J n : Int} (h : AllX A L B T J n (upto (stP B T) k) W) : ∃ j : Nat, k = j + 1 ∧ (j : Int) = n ∧ AllV W A L B T J (sumW (upto (stP B T) j)) 0 := by
  obtain ⟨q, x, h1, h2, h3⟩ := h
  cases k with
  | zero => simp [upto] at h1
  | succ j =>
    rw [upto_next] at h1
    have e := (List.append_inj' h1 rfl).1
    subst e
    rw [upto_length] at h2
    exact ⟨j, rfl, h2, h3⟩
theorem box4 {w0 w1 w2 : World} {B T J n : Int} {s t : TypeId} (h : w2 = ((w1.alloc (.cells #[.int .i64 0] s)).alloc (.cells #[.int .i64 n] s)).alloc (.cells #[.int .i64 B, .int .i64 T, .int .i64 J] t))
    (hB : Below w0.heap.size w0 w1) (hb : Bx w1 w0.heap.size B T J) :
    Below w0.heap.size w0 w2 ∧ w2.heap.size = w1.heap.size + 3 ∧ w0.heap.size < w1.heap.size ∧ Bx w2 (w1.heap.size + 1 + 1) B T J ∧ AllV w2 w0.heap.size w1.heap.size B T J 0 n := by
  have hs := hB.size
  have hl := hb.lt
  have k1 : Below w1.heap.size w1 (w1.alloc (.cells #[.int .i64 0] s)) := below_alloc _ _
  have k2 := below_alloc (w1.alloc (.cells #[.int .i64 0] s)) (.cells #[.int .i64 n] s)
  have k3 := below_alloc ((w1.alloc (.cells #[.int .i64 0] s)).alloc (.cells #[.int .i64 n] s)) (.cells #[.int .i64 B, .int .i64 T, .int .i64 J] t)
  have kb := Bx.new ((w1.alloc (.cells #[.int .i64 0] s)).alloc (.cells #[.int .i64 n] s)) B T J t
  have ks := Nx.new w1 0 s
  have km := Nx.new (w1.alloc (.cells #[.int .i64 0] s)) n s
  rw [World.size_alloc, World.size_alloc] at kb
  rw [World.size_alloc] at km
  subst h
  refine ⟨hB.trans ((k1.mono hs).trans ((k2.mono (by simp; omega)).trans (k3.mono (by simp; omega)))), by simp, hl, kb, ((hb.below k1 (Nat.le_refl _)).below k2 (Nat.le_refl _)).below k3 (Nat.le_refl _), (ks.below k2 (Nat.le_refl _)).below k3 (Nat.le_refl _), km.below k3 (Nat.le_refl _)⟩
set_option maxRecDepth 100000 in
set_option maxHeartbeats 2000000 in
theorem all_yes (B T J n : Int) (w : World) (h : Bk B T J) (hn : 0 ≤ n) (hn2 : n ≤ 9223372036854775807) :
    Calls Try.prog 8 #[.agg #[.int .i64 B, .int .i64 T, .int .i64 J], .int .i64 n] w fun e w' => e = .returned (.tuple #[.int .i64 (allT B T n.toNat), .int .i64 0]) ∧ Below w.heap.size w w' := by
  have HH := Lib.hid (has_yes h hn)
  refine callsIn_wide.1 (callsIn_of_wp_marks (n := 3) Try.func8 rfl trivial (wpIn_wide.2 ?_) rfl)
  simp only [Try.ntmps8, List.size_toArray, List.length_cons, List.length_nil, Nat.reduceAdd, Nat.reduceSub, Array.replicate_succ, Array.replicate_zero, List.push_toArray, List.append_toArray, List.nil_append, List.cons_append]
  go_wp2_with fail
  refine (has_is _ _ _ _ true _ HH.out).mono ?_
  rintro e w1 ⟨rfl, B1⟩
  obtain ⟨hB1, hb1⟩ := box1 B1
  clear B1
  have c0 := hb1.c0
  have c1 := hb1.c1
  have c2 := hb1.c2
  have lt0 := hb1.lt
  go_wp2_with fail
  refine (steps_any B T J _).mono ?_
  rintro e w2 ⟨rfl, hw2⟩
  obtain ⟨hB2, hsz, hlt, hb2, hv2⟩ := box4 hw2 hB1 hb1
  clear hw2 c0 c1 c2 hb1 hB1
  rw [World.size_alloc, World.size_alloc]
  generalize w1.heap.size = L at *
  clear w1
  go_wp2_with fail
  refine wpIn_wide.1 (wpIn_rangeFunc_ownF (n := 3) (w0 := w2) rfl (by omega) (gf := 21) (lb := #[.pointer (some ⟨L + 1 + 1, 0, none⟩)]) rfl trivial (enters_of Try.func21 (by kernel_rfl) rfl)
    (steps_stops (3 - 1) (by omega) (L + 1 + 1) B T J h w2 (by omega) hb2.c0 hb2.c1) (fun h k => h.trans k) (fun W l o o' hl _ _ _ => KeepB.put (w := w2) (by omega) W l o o' hl) (Below.refl _ _) (fun _ => rfl)
    (fun pre W => (AllV W w.heap.size L B T J (sumW pre) (n - (pre.length : Int)) ∧ (pre.length : Int) ≤ n) ∧ Below w.heap.size w W)
    (fun c pre W => (c = .exit 0 ∧ AllX w.heap.size L B T J n pre W) ∧ Below w.heap.size w W)
    (OwnFrom.and (Own.from (fun s A B row hs hg hr => ⟨hs.1.kept hg hr, hs.2⟩) _) (ownFrom_below (Nat.le_refl _) (by omega)))
    (fun c => OwnFrom.and (Own.from (fun s A B row hs hg hr => ⟨hs.1, hs.2.kept hg hr⟩) _) (ownFrom_below (Nat.le_refl _) (by omega)))
    ⟨⟨by simpa [sumW, sumP, wrap64] using hv2, by simpa using hn⟩, hB2⟩
    (fun x => { tmps := #[.agg #[.int .i64 B, .int .i64 T, .int .i64 J], .int .i64 n, .pointer (some ⟨w.heap.size, 0, none⟩), undef, .int .i64 0, .int .i64 0, .pointer (some ⟨L, 0, none⟩), .pointer (some ⟨L + 1, 0, none⟩), undef, .int .i64 x.2,
      .agg #[.int .i64 B, .int .i64 T, .int .i64 J], .int .i64 n, .bool true, .bool false, .int .i64 n, .agg #[.int .i64 B, .int .i64 T, .int .i64 J], .func (.func 21) #[] #[.pointer (some ⟨L + 1 + 1, 0, none⟩)], .int .i64 x.1, .int .i64 x.2, undef, undef, undef, undef, undef, undef, undef, undef, undef, undef, undef, undef, undef, undef], defers := [] }) ?assign ?body ?done ?stop)
  case assign =>
    intro l x W K hK
    gi_wp2
    exact hK
  case body =>
    rintro l pre ⟨i, s⟩ W ⟨⟨hv3, hle⟩, hB⟩ _
    have e0 := hv3.m.c0
    have e1 := hv3.s.c0
    have e2 := hv3.s.fr
    have e3 := hv3.m.fr
    have HS := Lib.hid (sumW_next pre (i, s))
    obtain ⟨m, hm⟩ : ∃ m, Hid (m = n - (pre.length : Int)) := ⟨_, rfl⟩
    have hm0 : 0 ≤ m := by rw [hm.out]; omega
    have hm1 : m ≤ 9223372036854775807 := by rw [hm.out]; omega
    rw [← hm.out] at e0
    by_cases hi : m = 0
    · have hlen : Hid ((pre.length : Int) = n) := by
        have := hm.out
        show _ = _
        omega
      subst hi
      clear hle
      gi_wp2
      exact ⟨KeepsOthers.refl _, ⟨rfl, pre, _, rfl, hlen.out, by rw [← hm.out] at hv3; exact hv3⟩, hB⟩
    · have hlen : Hid (((pre ++ [(i, s)]).length : Int) ≤ n ∧ m - 1 = n - ((pre ++ [(i, s)]).length : Int)) := by
        have := hm.out
        simp only [List.length_append, List.length_cons, List.length_nil]
        constructor <;> omega
      clear hle
      gi_wp2
      refine ⟨(KeepsOthers.setCell _ _ _).trans (KeepsOthers.setCell _ _ _), KeepB.trans (KeepB.set _ _ _ (by omega)) (KeepB.set _ _ _ (by omega)), ⟨?_, hlen.out.1⟩, (hB.setCell (p := ⟨L, 0, none⟩) (by simp; omega) _).setCell (p := ⟨L + 1, 0, none⟩) (by simp; omega) _⟩
      rw [HS.out, ← hlen.out.2]
      exact hv3.set (by omega) _ _
  case done =>
    rintro D xs W hD ⟨K, hK1, hK2, rfl⟩ ⟨⟨hv3, hle⟩, hB⟩ hK
    have hT1 := h.b1
    have hT2 := h.t1
    obtain ⟨e1, s0, s1⟩ := sumW_is h (k := K + 1) (by omega)
    rw [upto_length] at hv3 hle
    rw [e1] at hv3
    have hA := (all_done h (k := K + 1) (by omega) (stepN_from (by omega) hK1 (by omega)) hle).symm
    generalize hs : sumN B T (K + 1) = s at *
    obtain ⟨m, hm⟩ : ∃ m, Hid (m = n - ((K + 1 : Nat) : Int)) := ⟨_, rfl⟩
    have m0 : 0 ≤ m := by rw [hm.out]; omega
    rw [← hm.out] at hv3 hA
    clear hs e1 hle hK1
    obtain ⟨r, hr⟩ : ∃ r, Hid (r = mulT T m) := ⟨_, rfl⟩
    have r0 : 0 ≤ r := by rw [hr.out]; exact mulT_nn (by omega) m0
    have r1 : r ≤ 1099511627776 := by rw [hr.out]; exact mulT_le _ _
    rw [← hr.out] at hA
    have HA := Lib.hid hA
    clear hA
    have c0 := hv3.b.c0
    have c1 := hv3.b.c1
    have c2 := hv3.b.c2
    have c3 := hv3.s.c0
    have c4 := hv3.m.c0
    go_wp2
    go_region_held3 (fun w' => w'.cell? ⟨w.heap.size, 0, none⟩ = some (.int .i64 B) ∧ w'.cell? ⟨w.heap.size, 1, none⟩ = some (.int .i64 T) ∧ w'.cell? ⟨w.heap.size, 2, none⟩ = some (.int .i64 J) ∧ w'.cell? ⟨L, 0, none⟩ = some (.int .i64 s) ∧ w'.cell? ⟨L + 1, 0, none⟩ = some (.int .i64 m))
      (first | exact ⟨keepC hB3 c0, keepC hB3 c1, keepC hB3 c2, keepC hB3 c3, keepC hB3 c4⟩ | exact ⟨keepC hB4 (keepC hB3 c0), keepC hB4 (keepC hB3 c1), keepC hB4 (keepC hB3 c2), keepC hB4 (keepC hB3 c3), keepC hB4 (keepC hB3 c4)⟩ | go_keep)
      (first | (go_at_call 19; refine (tops_is B T J m r _ hr.out h m0).mono ?_; rintro e w3 ⟨rfl, hB3⟩) | (go_at_call 17; refine (add_is s r _ _ HA.out s0 s1 r0 r1).mono ?_; rintro e w4 ⟨rfl, hB4⟩))
    go_wp2
    have hDl : D < W.heap.size := (Array.getElem?_eq_some_iff.1 hK).1
    have z3 : W.heap.size ≤ w3.heap.size := hB3.size
    have zB := hB.size
    have hK4 : w4.heap[D]? = some (.deferred (some [])) := (hB4.block D (by omega)).trans ((hB3.block D hDl).trans hK)
    refine ⟨by simp, .inl ⟨_, _, rfl, run_takeDeferred hK4, ?_⟩⟩
    refine ⟨_, results_tmp2 rfl _ _ _, ?_, ?_⟩
    · rfl
    exact (hB.trans ((below_undrew hB3 zB).trans (hB4.mono (by omega)))).trans (belowK_b (w := w) (Nat.le_refl _) w4 D _ _ (by omega) hK4 rfl rfl)
  case stop =>
    rintro D c pre W hD ⟨k, hk, rfl⟩ ⟨⟨rfl, hx⟩, hB⟩ hK
    obtain ⟨j, rfl, hj, hv3⟩ := hx.steps
    clear hx
    have hT1 := h.b1
    have hT2 := h.t1
    obtain ⟨e1, s0, s1⟩ := sumW_is h (k := j) (by omega)
    rw [e1] at hv3
    have hA := (all_stop s1).symm
    rw [show j = n.toNat from by omega] at hA s0 s1 hv3
    generalize sumN B T n.toNat = s at *
    obtain ⟨m, hm⟩ : ∃ m : Int, m = 0 := ⟨_, rfl⟩
    have m0 : 0 ≤ m := by omega
    rw [← hm] at hv3 hA
    clear hm e1 hj
    refine wpIn_wide.2 ?_
    obtain ⟨r, hr⟩ : ∃ r, Hid (r = mulT T m) := ⟨_, rfl⟩
    have r0 : 0 ≤ r := by rw [hr.out]; exact mulT_nn (by omega) m0
    have r1 : r ≤ 1099511627776 := by rw [hr.out]; exact mulT_le _ _
    rw [← hr.out] at hA
    have HA := Lib.hid hA
    clear hA
    have c0 := hv3.b.c0
    have c1 := hv3.b.c1
    have c2 := hv3.b.c2
    have c3 := hv3.s.c0
    have c4 := hv3.m.c0
    go_wp2
    go_region_held3 (fun w' => w'.cell? ⟨w.heap.size, 0, none⟩ = some (.int .i64 B) ∧ w'.cell? ⟨w.heap.size, 1, none⟩ = some (.int .i64 T) ∧ w'.cell? ⟨w.heap.size, 2, none⟩ = some (.int .i64 J) ∧ w'.cell? ⟨L, 0, none⟩ = some (.int .i64 s) ∧ w'.cell? ⟨L + 1, 0, none⟩ = some (.int .i64 m))
      (first | exact ⟨keepC hB3 c0, keepC hB3 c1, keepC hB3 c2, keepC hB3 c3, keepC hB3 c4⟩ | exact ⟨keepC hB4 (keepC hB3 c0), keepC hB4 (keepC hB3 c1), keepC hB4 (keepC hB3 c2), keepC hB4 (keepC hB3 c3), keepC hB4 (keepC hB3 c4)⟩ | go_keep)
      (first | (go_at_call 19; refine (tops_is B T J m r _ hr.out h m0).mono ?_; rintro e w3 ⟨rfl, hB3⟩) | (go_at_call 17; refine (add_is s r _ _ HA.out s0 s1 r0 r1).mono ?_; rintro e w4 ⟨rfl, hB4⟩))
    go_wp2
    have hDl : D < W.heap.size := (Array.getElem?_eq_some_iff.1 hK).1
    have z3 : W.heap.size ≤ w3.heap.size := hB3.size
    have zB := hB.size
    have hK4 : w4.heap[D]? = some (.deferred (some [])) := (hB4.block D (by omega)).trans ((hB3.block D hDl).trans hK)
    refine ⟨by simp, .inl ⟨_, _, rfl, run_takeDeferred hK4, ?_⟩⟩
    refine ⟨_, results_tmp2 rfl _ _ _, ?_, ?_⟩
    · rfl
    exact (hB.trans ((below_undrew hB3 zB).trans (hB4.mono (by omega)))).trans (belowK_b (w := w) (Nat.le_refl _) w4 D _ _ (by omega) hK4 rfl rfl)
set_option maxHeartbeats 800000 in
theorem all_no (B T J n : Int) (w : World) (h : hasB B T J n = false) :
    Calls Try.prog 8 #[.agg #[.int .i64 B, .int .i64 T, .int .i64 J], .int .i64 n] w fun e w' => e = .returned (.tuple #[.int .i64 0, .int .i64 1]) ∧ Below w.heap.size w w' := by
  have HH := Lib.hid h
  clear h
  go_enter Try.func8, Try.ntmps8
  go_wp2_with fail
  refine (has_is _ _ _ _ false _ HH.out).mono ?_
  rintro e w1 ⟨rfl, B1⟩
  obtain ⟨hB1, hb1⟩ := box1 B1
  clear B1
  go_wp2
  go_ret2
  exact ⟨rfl, hB1⟩
theorem all_is (B T J n r : Int) (w : World) (hr : r = allT B T n.toNat) (h : Bk B T J) (hn : 0 ≤ n) (hn2 : n ≤ 9223372036854775807) :
    Calls Try.prog 8 #[.agg #[.int .i64 B, .int .i64 T, .int .i64 J], .int .i64 n] w fun e w' => e = .returned (.tuple #[.int .i64 r, .int .i64 0]) ∧ Below w.heap.size w w' := by subst hr; exact all_yes B T J n w h hn hn2
end Go.Proofs.Ytnapnegjdagcpaa
