/-
  Backs, by the document's own definition: one contract each.
-/
import Derived.Test.YtnapnegjdagcpaaRisesW
namespace Go.Proofs.Ytnapnegjdagcpaa
open Go.RowKit
set_option linter.unusedVariables false

theorem back_no {B T J : Int} (h : ¬ (1 ≤ B ∧ B ≤ 1048576 ∧ B ≤ T ∧ T ≤ 1073741824 ∧ 0 ≤ J ∧ J ≤ 1048576)) : backB B T J = false := by
  cases hb : backB B T J with
  | false => rfl
  | true =>
    obtain ⟨a, b, c, d, e, f⟩ := back_yes hb
    exact absurd ⟨a, b, c, d, e, f⟩ h
set_option maxHeartbeats 800000 in
theorem rright_any (B T J : Int) (w : World) :
    Calls Try.prog 10 #[.agg #[.int .i64 B, .int .i64 T, .int .i64 J]] w fun e w' => e = .returned (.bool (backB B T J)) ∧ Below w.heap.size w w' := by
  by_cases h1 : 1 ≤ B
  · by_cases h2 : B ≤ 1048576
    · by_cases h3 : B ≤ T
      · by_cases h4 : T ≤ 1073741824
        · by_cases h5 : 0 ≤ J
          · by_cases h6 : J ≤ 1048576
            · have H : Hid (backB B T J = true) := back_mk ⟨h1, h2, h3, h4, h5, h6⟩
              go_enter Try.func10, Try.ntmps10
              go_wp2
              go_ret
              exact ⟨retB H.out.symm, below_alloc w _⟩
            · have H : Hid (backB B T J = false) := back_no (by omega)
              go_enter Try.func10, Try.ntmps10
              go_wp2
              go_ret
              exact ⟨retB H.out.symm, below_alloc w _⟩
          · have H : Hid (backB B T J = false) := back_no (by omega)
            go_enter Try.func10, Try.ntmps10
            go_wp2
            go_ret
            exact ⟨retB H.out.symm, below_alloc w _⟩
        · have H : Hid (backB B T J = false) := back_no (by omega)
          go_enter Try.func10, Try.ntmps10
          go_wp2
          go_ret
          exact ⟨retB H.out.symm, below_alloc w _⟩
      · have H : Hid (backB B T J = false) := back_no (by omega)
        go_enter Try.func10, Try.ntmps10
        go_wp2
        go_ret
        exact ⟨retB H.out.symm, below_alloc w _⟩
    · have H : Hid (backB B T J = false) := back_no (by omega)
      go_enter Try.func10, Try.ntmps10
      go_wp2
      go_ret
      exact ⟨retB H.out.symm, below_alloc w _⟩
  · have H : Hid (backB B T J = false) := back_no (by omega)
    go_enter Try.func10, Try.ntmps10
    go_wp2
    go_ret
    exact ⟨retB H.out.symm, below_alloc w _⟩
theorem rright_is (B T J : Int) (r : Bool) (w : World) (h : backB B T J = r) :
    Calls Try.prog 10 #[.agg #[.int .i64 B, .int .i64 T, .int .i64 J]] w fun e w' => e = .returned (.bool r) ∧ Below w.heap.size w w' := by subst h; exact rright_any B T J w

theorem stepN_min (B T : Int) (k : Nat) (h : T < 2 * stepN B T k) : stepN B T (k + 1) = T := by rw [stepN_next, if_neg (by omega)]
theorem stepN_dbl (B T : Int) (k : Nat) (h : 2 * stepN B T k ≤ T) : stepN B T (k + 1) = 2 * stepN B T k := stepN_just k h
set_option maxHeartbeats 800000 in
theorem rstep_any (B T J n : Int) (w : World) (h : Bk B T J) (hn : 0 ≤ n) (hn2 : n ≤ 9223372036854775807) :
    Calls Try.prog 12 #[.agg #[.int .i64 B, .int .i64 T, .int .i64 J], .int .i64 n] w fun e w' => e = .returned (.int .i64 (stepN B T n.toNat)) ∧ Below w.heap.size w w' := by
  have b1 := h.b1
  have b2 := h.b2
  have t1 := h.t1
  have t2 := h.t2
  go_enter Try.func12, Try.ntmps12
  go_wp2
  go_loop [5, 6] (fun s i => ∃ k : Nat, (k : Int) ≤ n ∧ i = .int .i64 k ∧ s = .int .i64 (stepN B T k)) (fun _ i => n.toNat - (intOf i).toNat)
  case atStart => exact ⟨0, by omega, rfl, rfl⟩
  case round =>
    obtain ⟨k, hk, rfl, rfl⟩ := hrel
    obtain ⟨s0, s1⟩ := stepN_range (B := B) (T := T) (by omega) t1 k
    have hm := Lib.hid (stepN_min B T k)
    have hd := Lib.hid (stepN_dbl B T k)
    have hf : Hid (stepN B T k = T → stepN B T n.toNat = T) := fun e => stepN_from (by omega) e (by omega)
    obtain ⟨s, hs⟩ : ∃ s, Hid (s = stepN B T k) := ⟨_, rfl⟩
    rw [← hs.out] at s0 s1 ⊢
    rw [← hs.out] at hm hd hf
    by_cases hi : (k : Int) < n
    · by_cases hlt : s < T
      · by_cases h2 : T < 2 * s
        · go_wp2
          go_round
          case rel => exact ⟨k + 1, by omega, by go_num, valI (hm.out h2).symm⟩
          case measure => simp [intOf]; omega
        · go_wp2
          go_round
          case rel => exact ⟨k + 1, by omega, by go_num, valI (hd.out (by omega)).symm⟩
          case measure => simp [intOf]; omega
      · have hF : Hid (stepN B T n.toNat = T) := hf.out (by omega)
        clear hf
        obtain rfl : s = T := by omega
        go_wp2
        go_ret
        exact ⟨retI hF.out.symm, below_alloc w _⟩
    · have e : Hid (n.toNat = k) := by show _ = _; omega
      go_wp2
      go_ret
      exact ⟨retI (by rw [e.out, hs.out]), below_alloc w _⟩
theorem rstep_is (B T J n r : Int) (w : World) (hr : r = stepN B T n.toNat) (h : Bk B T J) (hn : 0 ≤ n) (hn2 : n ≤ 9223372036854775807) :
    Calls Try.prog 12 #[.agg #[.int .i64 B, .int .i64 T, .int .i64 J], .int .i64 n] w fun e w' => e = .returned (.int .i64 r) ∧ Below w.heap.size w w' := by subst hr; exact rstep_any B T J n w h hn hn2
theorem rwait_eq {B T J n d m s : Int} (hs : s = stepN B T n.toNat) (hm : J + 1 = m) (m0 : 0 < m) (m3 : m ≤ 1048577) (s0 : 0 ≤ s) (s1 : s ≤ 1073741824) : IntKind.i64.wrap (s + (IntKind.i64.wrap (d.tmod m + m)).tmod m) = waitT B T J n d := by
  rw [IntWalk.i64_left, IntWalk.i64_left]
  rw [part_eq' m0 (by omega)]
  unfold waitT partT
  rw [← hs, hm]
  have := Int.emod_nonneg d (show m ≠ 0 by omega)
  have := Int.emod_lt_of_pos d m0
  generalize d % m = p at *
  unfold wrap64
  omega
set_option maxHeartbeats 800000 in
theorem rwait_any (B T J n d : Int) (w : World) (h : Bk B T J) (hn : 0 ≤ n) (hn2 : n ≤ 9223372036854775807) :
    Calls Try.prog 13 #[.agg #[.int .i64 B, .int .i64 T, .int .i64 J], .int .i64 n, .int .i64 d] w fun e w' => e = .returned (.int .i64 (waitT B T J n d)) ∧ Below w.heap.size w w' := by
  have b1 := h.b1
  have t1 := h.t1
  have t2 := h.t2
  have j1 := h.j1
  have j2 := h.j2
  obtain ⟨s, hs⟩ : ∃ s, Hid (s = stepN B T n.toNat) := ⟨_, rfl⟩
  obtain ⟨s0, s1⟩ := stepN_range (B := B) (T := T) (by omega) t1 n.toNat
  rw [← hs.out] at s0 s1
  have c0 := (Bx.new w B T J 23).c0
  have c1 := (Bx.new w B T J 23).c1
  have c2 := (Bx.new w B T J 23).c2
  go_enter Try.func13, Try.ntmps13
  go_wp2
  obtain ⟨m, hm⟩ : ∃ m, Hid (J + 1 = m) := ⟨_, rfl⟩
  have m0 : 0 < m := by rw [← hm.out]; omega
  have m1 : m ≠ 0 := by omega
  have m2 : (m == 0) = false := by simpa using m1
  have m3 : m ≤ 1048577 := by rw [← hm.out]; omega
  rw [hm.out]
  go_region_held3 (fun w' => w'.cell? ⟨w.heap.size, 0, none⟩ = some (.int .i64 B) ∧ w'.cell? ⟨w.heap.size, 1, none⟩ = some (.int .i64 T) ∧ w'.cell? ⟨w.heap.size, 2, none⟩ = some (.int .i64 J))
    (first | exact ⟨keepC hB3 c0, keepC hB3 c1, keepC hB3 c2⟩ | go_keep)
    (first | (go_at_call 12; refine (rstep_is B T J n s _ hs.out h hn hn2).mono ?_; rintro e w3 ⟨rfl, hB3⟩))
  have E : Hid (IntKind.i64.wrap (s + (IntKind.i64.wrap (d.tmod m + m)).tmod m) = waitT B T J n d) := rwait_eq hs.out hm.out m0 m3 (by omega) (by omega)
  have s3 : w.heap.size ≤ w3.heap.size := by have := hB3.size; simp at this; omega
  go_wp2
  go_ret
  exact ⟨retI E.out, (below_alloc w _).trans (below_undrew hB3 (by simp))⟩
theorem rwait_is (B T J n d r : Int) (w : World) (hr : r = waitT B T J n d) (h : Bk B T J) (hn : 0 ≤ n) (hn2 : n ≤ 9223372036854775807) :
    Calls Try.prog 13 #[.agg #[.int .i64 B, .int .i64 T, .int .i64 J], .int .i64 n, .int .i64 d] w fun e w' => e = .returned (.int .i64 r) ∧ Below w.heap.size w w' := by subst hr; exact rwait_any B T J n d w h hn hn2

theorem stepN_pow {B T : Int} (hB : 1 ≤ B) (hT : B ≤ T) (k : Nat) (h : stepN B T k < T) : ((2 ^ k : Nat) : Int) ≤ stepN B T k := by
  induction k with
  | zero =>
    show ((2 ^ 0 : Nat) : Int) ≤ B
    simpa using hB
  | succ k ih =>
    have hr := stepN_range (B := B) (T := T) (by omega) hT k
    rw [stepN_next] at h ⊢
    split at h
    · rename_i h1
      rw [if_pos h1]
      have := ih (by omega)
      have e : ((2 ^ (k + 1) : Nat) : Int) = 2 * ((2 ^ k : Nat) : Int) := by rw [Nat.pow_succ]; omega
      omega
    · omega
theorem stepN_few {B T : Int} (hB : 1 ≤ B) (hBT : B ≤ T) (hT : T ≤ 1073741824) (k : Nat) (h : stepN B T k < T) : k < 30 := by
  have hp := stepN_pow hB hBT k h
  have : (2 ^ k : Nat) < 2 ^ 30 := by
    have e : ((2 ^ 30 : Nat) : Int) = 1073741824 := by decide
    omega
  exact (Nat.pow_lt_pow_iff_right (by decide)).1 this
/-- where the sum ends: so many at the top are left -/
theorem allT_top {B T n : Int} (hT : 0 ≤ T) {k : Nat} (h : stepN B T k = T) (hk : (k : Int) ≤ n) : allT B T n.toNat = if 1099511627776 < sumN B T k + T * (n - k) then 1099511627776 else sumN B T k + T * (n - k) := by
  have e := sumN_top hT h (n.toNat - k)
  rw [show k + (n.toNat - k) = n.toNat from by omega, show ((n.toNat - k : Nat) : Int) = n - k from by omega] at e
  unfold allT
  rw [e]
theorem left_iff {x T m : Int} (hT : 0 < T) : ((1099511627776 - x) / T < m) ↔ (1099511627776 < x + T * m) := by
  rw [Int.ediv_lt_iff_lt_mul hT, Int.mul_comm m T]
  omega
theorem allV_next {w w' : World} {A : Nat} {B T J : Int} (h : Bx w A B T J) (hb : Below w.drew.heap.size w.drew w') : Bx w' A B T J := h.below (below_undrew hb (Nat.le_refl _)) (Nat.le_refl _)
set_option maxRecDepth 100000 in
set_option maxHeartbeats 1600000 in
theorem rall_any6 (B T J n : Int) (w : World) (h : Bk B T J) (hn : 0 ≤ n) (hn2 : n ≤ 9223372036854775807) :
    Calls Try.prog 14 #[.agg #[.int .i64 B, .int .i64 T, .int .i64 J], .int .i64 n] w fun e w' => e = .returned (.int .i64 (allT B T n.toNat)) ∧ Below w.heap.size w w' := by
  have b1 := h.b1
  have t1 := h.t1
  have t2 := h.t2
  go_enter Try.func14, Try.ntmps14
  go_wp2
  go_loopw [5, 6] (fun a b wr => ∃ k : Nat, b = .int .i64 k ∧ a = .int .i64 (sumN B T k) ∧ (k : Int) ≤ n ∧ k ≤ 30 ∧ Bx wr w.heap.size B T J ∧ Below w.heap.size w wr) (fun _ b _ => n.toNat - (intOf b).toNat)
  case atStart => exact ⟨0, rfl, rfl, by omega, by omega, Bx.new w B T J _, below_alloc w _⟩
  case round =>
    obtain ⟨k, rfl, rfl, hk, hk30, hx, hB⟩ := hrel
    have zB := hB.size
    obtain ⟨s0, s1⟩ := stepN_range (B := B) (T := T) (by omega) t1 k
    have hfew := Lib.hid (stepN_few (B := B) (T := T) b1 t1 t2 k)
    have hnext := Lib.hid (sumN_next B T k)
    have y0 := sumN_nn (B := B) (T := T) (by omega) t1 k
    have y1 := sumN_le (B := B) (T := T) (by omega) t1 t2 k
    have htop : Hid (stepN B T k = T → allT B T n.toNat = if 1099511627776 < sumN B T k + T * (n - k) then 1099511627776 else sumN B T k + T * (n - k)) := fun e => allT_top (by omega) e hk
    have hend : Hid ((k : Int) = n → allT B T n.toNat = sumN B T k) := by
      intro e
      rw [show n.toNat = k from by omega]
      unfold allT
      rw [if_neg (by omega)]
    obtain ⟨s, hs⟩ : ∃ s, Hid (s = stepN B T k) := ⟨_, rfl⟩
    obtain ⟨y, hy⟩ : ∃ y, Hid (y = sumN B T k) := ⟨_, rfl⟩
    rw [← hs.out] at s0 s1 hfew hnext htop
    rw [← hy.out] at hnext y0 y1 htop hend ⊢
    have c0 := hx.c0
    have c1 := hx.c1
    have c2 := hx.c2
    have lt0 := hx.lt
    by_cases hi : (k : Int) < n
    · by_cases hlt : s < T
      · have hk29 := hfew.out hlt
        go_wp2
        go_region_held3 (fun w' => w'.cell? ⟨w.heap.size, 0, none⟩ = some (.int .i64 B) ∧ w'.cell? ⟨w.heap.size, 1, none⟩ = some (.int .i64 T) ∧ w'.cell? ⟨w.heap.size, 2, none⟩ = some (.int .i64 J))
          (first | exact ⟨keepC hB3 c0, keepC hB3 c1, keepC hB3 c2⟩ | go_keep)
          (first | (go_at_call 12; refine (rstep_is B T J k s _ hs.out h (by omega) (by omega)).mono ?_; rintro e w3 ⟨rfl, hB3⟩))
        have hx3 := allV_next hx hB3
        have d0 := hx3.c0
        have d1 := hx3.c1
        have d2 := hx3.c2
        have z3 : wr.heap.size ≤ w3.heap.size := hB3.size
        go_wp2_with fail
        refine (rstep_is B T J k s _ hs.out h (by omega) (by omega)).mono ?_
        rintro e w4 ⟨rfl, hB4⟩
        go_wp2
        go_roundw
        case rel => exact ⟨k + 1, by go_num, by rw [hnext.out], by omega, by omega, hx3.below hB4 (Nat.le_refl _), (hB.trans (below_undrew hB3 zB)).trans (hB4.mono (by omega))⟩
        case measure => simp [intOf]; omega
      · have hF := htop.out (by omega)
        go_wp2
        go_region_held3 (fun w' => w'.cell? ⟨w.heap.size, 0, none⟩ = some (.int .i64 B) ∧ w'.cell? ⟨w.heap.size, 1, none⟩ = some (.int .i64 T) ∧ w'.cell? ⟨w.heap.size, 2, none⟩ = some (.int .i64 J))
          (first | exact ⟨keepC hB3 c0, keepC hB3 c1, keepC hB3 c2⟩ | go_keep)
          (first | (go_at_call 12; refine (rstep_is B T J k s _ hs.out h (by omega) (by omega)).mono ?_; rintro e w3 ⟨rfl, hB3⟩))
        have hx3 := allV_next hx hB3
        have d0 := hx3.c0
        have d1 := hx3.c1
        have d2 := hx3.c2
        have z3 : wr.heap.size ≤ w3.heap.size := hB3.size
        by_cases hq : (1099511627776 - y) / T < n - k
        · rw [if_pos ((left_iff (by omega)).1 hq)] at hF
          have HF := Lib.hid hF
          clear hF
          go_wp2
          go_ret
          exact ⟨retI HF.out.symm, hB.trans (below_undrew hB3 zB)⟩
        · have h2 : y + T * (n - k) ≤ 1099511627776 := by
            rcases Int.lt_or_le 1099511627776 (y + T * (n - k)) with h | h
            · exact absurd ((left_iff (by omega)).2 h) hq
            · exact h
          rw [if_neg (by omega)] at hF
          have HF : Hid (wrap64 (y + wrap64 ((n - k) * T)) = allT B T n.toNat) := by
            show _ = _
            have h5 : 0 ≤ T * (n - k) := Int.mul_nonneg (by omega) (by omega)
            rw [hF, Int.mul_comm (n - k) T]
            generalize T * (n - k) = z at *
            unfold wrap64
            omega
          clear hF
          go_wp2
          go_ret
          exact ⟨retI HF.out, hB.trans (below_undrew hB3 zB)⟩
    · have hF := hend.out (by omega)
      clear hend htop
      have HF := Lib.hid hF
      clear hF
      have hd : decide ((k : Int) < n) = false := decide_eq_false hi
      go_wp2
      go_quiet (fail)
      have hz : (1099511627776 - y) / T < n - k ↔ False := by
        constructor
        · intro hh
          have := Int.ediv_nonneg (show 0 ≤ 1099511627776 - y by omega) (show 0 ≤ T by omega)
          omega
        · exact False.elim
      have hq : ¬ ((1099511627776 - y) / T < n - k) := fun hh => hz.1 hh
      have he : Hid (wrap64 (y + wrap64 ((n - k) * T)) = allT B T n.toNat) := by
        show _ = _
        rw [show n - (k : Int) = 0 from by omega, HF.out]
        unfold wrap64
        omega
      clear hz
      go_wp2
      go_ret
      exact ⟨retI he.out, below_drewN hB _⟩
end Go.Proofs.Ytnapnegjdagcpaa
