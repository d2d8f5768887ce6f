/-
  What is told of a store; a new one.
-/
import Derived.Test.YtmjbhmmcpjhmcaaLogN
namespace Go.Proofs.Ytmjbhmmcpjhmcaa
open Go.RowKit
set_option linter.unusedVariables false

/-- a store: its disk, its generation, how many records it has, its greatest generation, and whether it is down -/
structure St where
  ss : List ByteArray
  g : Int
  u : Int
  t : Int
  d : Bool
/-- no store -/
def St.zero : St := ⟨[], 0, 0, 0, false⟩
/-- what is told: a store, and why -/
def TellS (e : Ending) (w' : World) (S : St) (er : Int) : Prop :=
  ∃ oa n cap, e = .returned (.tuple #[.agg #[.slice oa n cap, .int .i64 S.g, .int .i64 S.u, .int .i64 S.t, .bool S.d], .int .i64 er]) ∧ Rd w' oa n cap S.ss
theorem ToldS.tell {e : Ending} {w' : World} {n : Nat} {ss : List ByteArray} {g u t : Int} {d : Bool} {er : Int} (h : ToldS e w' n ss g u t d er) : TellS e w' ⟨ss, g, u, t, d⟩ er := by
  obtain ⟨ob, m, h1, h2⟩ := h
  exact ⟨ob, n, m, h1, h2⟩
/-- all cells of a store's variable written -/
def put5 (w : World) (A : Nat) (x : Value) (g u t : Int) (d : Bool) : World :=
  ((((w.setCell ⟨A, 0, none⟩ x).setCell ⟨A, 1, none⟩ (.int .i64 g)).setCell ⟨A, 2, none⟩ (.int .i64 u)).setCell ⟨A, 3, none⟩ (.int .i64 t)).setCell ⟨A, 4, none⟩ (.bool d)
theorem SRow.put {w : World} {A : Nat} {x0 : Value} {g0 u0 t0 : Int} {d0 : Bool} (h : SRow w A x0 g0 u0 t0 d0) (x : Value) (g u t : Int) (d : Bool) : SRow (put5 w A x g u t d) A x g u t d := by
  have k0 : SRow (w.setCell ⟨A, 0, none⟩ x) A x g0 u0 t0 d0 := h.set0 x
  have k1 : SRow ((w.setCell ⟨A, 0, none⟩ x).setCell ⟨A, 1, none⟩ (.int .i64 g)) A x g u0 t0 d0 := by
    unfold SRow
    rw [heap_setCell_same _ _ _ _ _ _ k0]
    rfl
  have k2 : SRow (((w.setCell ⟨A, 0, none⟩ x).setCell ⟨A, 1, none⟩ (.int .i64 g)).setCell ⟨A, 2, none⟩ (.int .i64 u)) A x g u t0 d0 := by
    unfold SRow
    rw [heap_setCell_same _ _ _ _ _ _ k1]
    rfl
  have k3 : SRow ((((w.setCell ⟨A, 0, none⟩ x).setCell ⟨A, 1, none⟩ (.int .i64 g)).setCell ⟨A, 2, none⟩ (.int .i64 u)).setCell ⟨A, 3, none⟩ (.int .i64 t)) A x g u t d0 := by
    unfold SRow
    rw [heap_setCell_same _ _ _ _ _ _ k2]
    rfl
  exact k3.set4 d
theorem put_other (w : World) (A : Nat) (x : Value) (g u t : Int) (d : Bool) (k : Nat) (h : k ≠ A) : (put5 w A x g u t d).heap[k]? = w.heap[k]? := by
  unfold put5
  rw [Below.heap_setCell _ _ _ _ h, Below.heap_setCell _ _ _ _ h, Below.heap_setCell _ _ _ _ h, Below.heap_setCell _ _ _ _ h, Below.heap_setCell _ _ _ _ h]
theorem put_below {w0 w : World} {A : Nat} {C : Nat} (hB : Below C w0 w) (hA : C ≤ A) (x : Value) (g u t : Int) (d : Bool) : Below C w0 (put5 w A x g u t d) :=
  ((((hB.setCell (p := ⟨A, 0, none⟩) hA _).setCell (p := ⟨A, 1, none⟩) hA _).setCell (p := ⟨A, 2, none⟩) hA _).setCell (p := ⟨A, 3, none⟩) hA _).setCell (p := ⟨A, 4, none⟩) hA _
theorem Rd.row {w : World} {ob : Option Addr} {n m : Nat} {ss : List ByteArray} (hR : Rd w ob n m ss) {A : Nat} {x : Value} {g u t : Int} {d : Bool} (hA : SRow w A x g u t d) (hx : ∃ a b c, x = .slice a b c) : ∀ b, 0 < n → ob = some ⟨b, 0, none⟩ → b ≠ A := by
  rintro b hn hb rfl
  obtain ⟨g', hg, hc⟩ := hR.cell 0 hn
  rw [hb] at hg
  cases hg
  rw [hA.at0] at hc
  obtain ⟨_, _, _, rfl⟩ := hx
  cases hc
theorem Rd.put {w : World} {ob : Option Addr} {n m : Nat} {ss : List ByteArray} (hR : Rd w ob n m ss) {A : Nat} {x0 : Value} {g0 u0 t0 : Int} {d0 : Bool} (hA : SRow w A x0 g0 u0 t0 d0) (hx : ∃ a b c, x0 = .slice a b c) (x : Value) (g u t : Int) (d : Bool) : Rd (put5 w A x g u t d) ob n m ss := by
  have hne := hR.row hA hx
  refine ⟨hR.len, hR.room, fun i hi => ?_⟩
  obtain ⟨b, hb, hc⟩ := hR.cell i hi
  have e := put_other w A x g u t d b (hne b (by omega) hb)
  generalize put5 w A x g u t d = w' at *
  exact ⟨b, hb, (World.cell?_of_block e).trans hc⟩
theorem ret_one {fn : Func} {p q : Tmp} (h : fn.results = #[.cell p 26, .tmp q]) {tmps : Array Value} {w : World} {A : Nat} {x : Value} {g u t : Int} {d : Bool} {v : Value} (hp : tmps.getD p undef = .pointer (some ⟨A, 0, none⟩)) (hq : tmps.getD q undef = v)
    (hA : SRow w A x g u t d) (hx : x.oneCell' = true) : (results fn tmps).run Try.prog w = .ok (.tuple #[.agg #[x, .int .i64 g, .int .i64 u, .int .i64 t, .bool d], v]) w := by
  have l1 := load5 hA hx
  rw [results_cell_tmp h, hp, hq]
  simp [Result.andThen, asAddr, l1]
/-- the end of a function that tells a store -/
theorem end_store {fn : Func} {p q : Tmp} (h : fn.results = #[.cell p 26, .tmp q]) {tmps : Array Value} {w0 w : World} {A : Nat} {x0 : Value} {g0 u0 t0 : Int} {d0 : Bool} {ob : Option Addr} {n m : Nat} {ss : List ByteArray} {g u t : Int} {d : Bool} {er : Int}
    (hp : tmps.getD p undef = .pointer (some ⟨A, 0, none⟩)) (hq : tmps.getD q undef = .int .i64 er) (hA : SRow w A x0 g0 u0 t0 d0) (hx : ∃ a b c, x0 = .slice a b c) (hR : Rd w ob n m ss) (hB : Below w0.heap.size w0 w) (hle : w0.heap.size ≤ A) :
    bodyPost Try.prog fn (fun e w' => TellS e w' ⟨ss, g, u, t, d⟩ er ∧ Below w0.heap.size w0 w') Exit.ret { tmps := tmps, defers := [] } (put5 w A (.slice ob n m) g u t d) :=
  bodyPost_ret (ret_one h hp hq (hA.put _ _ _ _ _) rfl) rfl ⟨⟨ob, n, m, rfl, hR.put hA hx _ _ _ _ _⟩, put_below hB hle _ _ _ _ _⟩
/-- the end of one that tells none -/
theorem end_none {fn : Func} {p q : Tmp} (h : fn.results = #[.cell p 26, .tmp q]) {tmps : Array Value} {w0 w : World} {A : Nat} {x0 : Value} {g0 u0 t0 : Int} {d0 : Bool} {er : Int}
    (hp : tmps.getD p undef = .pointer (some ⟨A, 0, none⟩)) (hq : tmps.getD q undef = .int .i64 er) (hA : SRow w A x0 g0 u0 t0 d0) (hB : Below w0.heap.size w0 w) (hle : w0.heap.size ≤ A) :
    bodyPost Try.prog fn (fun e w' => TellS e w' St.zero er ∧ Below w0.heap.size w0 w') Exit.ret { tmps := tmps, defers := [] } (put5 w A (.slice none 0 0) 0 0 0 false) :=
  bodyPost_ret (ret_one h hp hq (hA.put _ _ _ _ _) rfl) rfl ⟨⟨none, 0, 0, rfl, Rd.nil _⟩, put_below hB hle _ _ _ _ _⟩
theorem tell_at {fn : Func} {ex : Exit} {a : Act} {w w0 : World} {S S' : St} {er er' : Int} (hS : S = S') (he : er = er') (h : bodyPost Try.prog fn (fun e w' => TellS e w' S er ∧ Below w0.heap.size w0 w') ex a w) :
    bodyPost Try.prog fn (fun e w' => TellS e w' S' er' ∧ Below w0.heap.size w0 w') ex a w := by
  subst hS he
  exact h

/-- may a log be of that size -/
def newOk (n : Int) : Bool := decide (10 ≤ n) && decide (n ≤ 130) && decide (n % 2 = 0)
/-- a new store's disk -/
def newD (n : Int) : List ByteArray := (List.replicate n.toNat (zerosB 128)).set 1 (sealS 1 0 ⟨#[]⟩)
/-- a new store -/
def newS (n : Int) : St := if newOk n then ⟨newD n, 1, 0, 1, false⟩ else St.zero
def newW (n : Int) : Int := if newOk n then 0 else 2
theorem newL_log {n : Int} (h : newE n = 0) : logB (newL n) = newOk n := by
  have hb : 10 ≤ n ∧ n ≤ 130 := by
    unfold newE at h
    by_cases c : 10 ≤ n ∧ n ≤ 130
    · exact c
    · rw [if_neg c] at h
      exact absurd h (by decide)
  obtain ⟨m, rfl⟩ := Int.eq_ofNat_of_zero_le (by omega : 0 ≤ n)
  unfold newL
  rw [if_pos h]
  have hl : (List.replicate (m : Int).toNat (zerosB 128)).length = m := by rw [List.length_replicate]; rfl
  have hr : rightB (List.replicate (m : Int).toNat (zerosB 128)) = true := by
    rw [right_iff, hl]
    exact ⟨by omega, by omega, fun s hs => by rw [(List.mem_replicate.1 hs).2]; exact zeros_size 128⟩
  unfold logB newOk
  rw [hr, hl, decide_eq_true hb.1, decide_eq_true hb.2, Bool.true_and, Bool.true_and, Bool.true_and, decide_eq_decide]
  omega
theorem newOk_iff (n : Int) : newOk n = true ↔ 10 ≤ n ∧ n ≤ 130 ∧ n % 2 = 0 := by unfold newOk; simp [and_assoc]
theorem newE_ok {n : Int} (h : newOk n = true) : newE n = 0 := by
  have := (newOk_iff n).1 h
  unfold newE
  rw [if_pos (by omega)]
theorem newE_no {n : Int} (h : newE n ≠ 0) : newOk n = false := by
  rw [Bool.eq_false_iff]
  exact fun e => h (newE_ok e)
theorem PRd.one (w : World) (a : Nat) (t : ByteArray) : PRd (w.alloc (.cells #[.int .i64 (a : Int), .string t] 67)) (some ⟨w.heap.size, 0, none⟩) 1 1 [(a, t)] := by
  refine ⟨rfl, Nat.le_refl _, fun i hi => ?_⟩
  obtain rfl : i = 0 := by omega
  exact ⟨w.heap.size, rfl, World.cell?_alloc_at _ _ _ _ rfl, World.cell?_alloc_at _ _ _ _ rfl⟩
theorem FRd.nil (w : World) : FRd w none 0 0 [] := ⟨rfl, Nat.le_refl _, fun i hi => absurd hi (by omega)⟩
theorem wr_one (ss : List ByteArray) (d : Bool) (a : Nat) (t : ByteArray) : wrM ss d [(a, t)] [] = (ss.set a t, d, 0) := by
  unfold wrM
  have h1 : ¬ (([] : List (Int × Int)).getD 0 (0, 0)).1 = 1 := by decide
  have h2 : ¬ (([] : List (Int × Int)).getD 0 (0, 0)).1 = 2 := by decide
  rw [if_neg h1, if_neg h2]
  rfl
theorem newL_few (n : Int) : (newL n).length ≤ 130 := by
  unfold newL newE
  by_cases c : 10 ≤ n ∧ n ≤ 130
  · rw [if_pos c, if_pos rfl, List.length_replicate]
    omega
  · rw [if_neg c, if_neg (by decide)]
    exact Nat.zero_le _
set_option maxRecDepth 100000 in
set_option maxHeartbeats 1600000 in
theorem new4_any (n : Int) (w : World) :
    Calls Try.prog 11 #[.int .i64 n] w fun e w' => TellS e w' (newS n) (newW n) ∧ Below w.heap.size w w' := by
  obtain ⟨W0, hW0⟩ : ∃ W0, W0 = w.alloc (.cells #[.slice none 0 0, .int .i64 0, .int .i64 0, .int .i64 0, .bool false] 26) := ⟨_, rfl⟩
  have hB0 : Below w.heap.size w W0 := by rw [hW0]; exact below_alloc w _
  have hA0 : SRow W0 w.heap.size (.slice none 0 0) 0 0 0 false := by rw [hW0]; exact heap_alloc_new w _
  have hs0 : w.heap.size + 1 ≤ W0.heap.size := by rw [hW0]; simp
  have HW := Lib.hid hW0
  clear hW0
  go_enter Try.func11, Try.ntmps11
  go_wp2_with fail
  rw [← HW.out]
  clear HW
  refine (new_any n _).mono ?_
  rintro e w1 ⟨⟨oa, m, cap, rfl, hR1⟩, hB1⟩
  have hA1 := hA0.keep hB1
  have hBB := hB0.trans (hB1.mono hB0.size)
  have hs1 := Nat.le_trans hs0 hB1.size
  clear hA0 hB0 hs0 hB1
  have hm : m ≤ 1000 := by have := hR1.len; have := newL_few n; omega
  obtain ⟨W1, hW1⟩ : ∃ W1, W1 = w1.alloc (.cells #[.slice oa m cap] 24) := ⟨_, rfl⟩
  have hA2 : SRow W1 w.heap.size (.slice none 0 0) 0 0 0 false := by rw [hW1]; exact hA1.keep (below_alloc w1 _)
  have hB2 : Below w.heap.size w W1 := by rw [hW1]; exact hBB.alloc (by omega) _
  have hR2 : Rd W1 oa m cap (newL n) := by rw [hW1]; exact hR1.below (below_alloc w1 _) (Nat.le_refl _)
  have hd2 : W1.heap[w1.heap.size]? = some (.cells #[.slice oa m cap] 24 (0, 0)) := by rw [hW1]; exact heap_alloc_new w1 _
  have c2 := cell_of_one hd2
  have HW1 := Lib.hid hW1
  clear hA1 hBB hR1 hW1
  by_cases hz : newE n = 0
  · have HL := Lib.hid (newL_log hz)
    rw [hz]
    clear hz
    have HC := Lib.hid (hasLog_any oa m cap (newL n) W1 hR2 hm)
    go_wp2_with fail
    rw [← HW1.out]
    refine HC.out.mono ?_
    rintro e w3 ⟨rfl, hB3⟩
    rw [HL.out]
    have hA3 := hA2.keep hB3
    have hB4 := hB2.trans (hB3.mono hB2.size)
    have hR3 := hR2.below hB3 (Nat.le_refl _)
    have hd3 := keepB hB3 hd2
    have c3 := cell_of_one hd3
    clear HC hB3 hA2 hB2 hR2 hd2 c2 HW1
    cases hok : newOk n
    · have HO := Lib.hid hok
      clear hok
      have p0 := hA3.at0
      have p4 := hA3.at4
      obtain ⟨p1, p2, p3⟩ := hA3.mids
      have pf := hA3.free
      go_wp2_with fail
      refine tell_at (S := St.zero) (er := 2) (by unfold newS; rw [HO.out]; rfl) (by unfold newW; rw [HO.out]; rfl) ?_
      exact end_none rfl rfl rfl hA3 hB4 (Nat.le_refl _)
    · have HO := Lib.hid hok
      clear hok
      go_wp2_with fail
      have hb := Lib.hid ((newOk_iff n).1 HO.out)
      have hl0 : Hid (logB (newL n) = true) := HL.out.trans HO.out
      have hp0 : Hid (∀ q ∈ [((1 : Nat), sealS 1 0 ⟨#[]⟩)], q.1 < (newL n).length ∧ q.2.size = 128) := by
        intro q hq
        simp at hq
        subst hq
        exact ⟨by have := (log_bounds hl0.out).1; show 1 < _; omega, (fits_head (g := 1) (by omega) (by omega)).len⟩
      have HC : Hid (∀ wx : World, Calls Try.prog 35 #[.int .i64 1] wx fun e w' => e = .returned (.agg #[.int .i64 1, .string (sealS 1 0 ⟨#[]⟩)]) ∧ Below wx.heap.size wx w') := fun wx => header_any 1 wx (by omega) (by omega)
      obtain ⟨W3, hW3⟩ : ∃ W3, W3 = w3.alloc (.cells #[.slice oa m cap, .int .i64 1, .int .i64 0, .int .i64 1, .bool false] 26) := ⟨_, rfl⟩
      have hs5 : SRow W3 w3.heap.size (.slice oa m cap) 1 0 1 false := by rw [hW3]; exact heap_alloc_new w3 _
      have hA5 : SRow W3 w.heap.size (.slice none 0 0) 0 0 0 false := by rw [hW3]; exact hA3.keep (below_alloc w3 _)
      have hB5 : Below w.heap.size w W3 := by rw [hW3]; exact hB4.alloc hB4.size _
      have hR5 : Rd W3 oa m cap (newL n) := by rw [hW3]; exact hR3.below (below_alloc w3 _) (Nat.le_refl _)
      have p0 := hA5.at0
      have p4 := hA5.at4
      obtain ⟨p1, p2, p3⟩ := hA5.mids
      have pf := hA5.free
      have m0 := hs5.at0
      have m4 := hs5.at4
      obtain ⟨m1, m2, m3⟩ := hs5.mids
      rw [← hW3]
      clear hA3 hB4 hR3 hd3 c3 hW3
      go_region_with (first
        | (go_at_call 35; refine (HC.out _).mono ?_; rintro e w6 ⟨rfl, hB6⟩; have hs6 := SRow.keep (w := W3.drew) hs5 hB6; have n0 := hs6.at0; have n4 := hs6.at4; have n1 := hs6.mids.1; have n2 := hs6.mids.2.1; have n3 := hs6.mids.2.2; have hs7 := hs6.keep (below_alloc w6 (.cells #[.int .i64 1, .string (sealS 1 0 ⟨#[]⟩)] 67)); have k0 := hs7.at0; have k4 := hs7.at4; have k1 := hs7.mids.1; have k2 := hs7.mids.2.1; have k3 := hs7.mids.2.2)
        | (go_at_call 34; refine (written_any oa m cap (newL n) 1 0 1 false _ 1 1 [(1, sealS 1 0 ⟨#[]⟩)] none 0 0 [] _ ((hR5.drew.below hB6 (Nat.le_refl _)).below (below_alloc w6 _) (Nat.le_refl _)) hl0.out (PRd.one _ _ _) (by omega) hp0.out (FRd.nil _) (by omega) (by simp)).mono ?_; rintro e w7 ⟨⟨ob, m7, rfl, hR7⟩, hB7⟩; rw [wr_one] at hR7 ⊢; have hA7 := ((SRow.keep (w := W3.drew) hA5 hB6).keep (below_alloc w6 _)).keep hB7; have p0 := hA7.at0; have p4 := hA7.at4; have p1 := hA7.mids.1; have p2 := hA7.mids.2.1; have p3 := hA7.mids.2.2; have pf := hA7.free))
      all_goals
        have hB8 := ((hB5.trans (below_undrew hB6 hB5.size)).alloc (Nat.le_trans hB5.size hB6.size) (.cells #[.int .i64 1, .string (sealS 1 0 ⟨#[]⟩)] 67)).trans (hB7.mono (Nat.le_trans (Nat.le_trans hB5.size hB6.size) (by simp)))
        go_wp2_with fail
        refine tell_at (S := ⟨(newL n).set 1 (sealS 1 0 ⟨#[]⟩), 1, 0, 1, false⟩) (er := 0) (by unfold newS newD newL; rw [HO.out, if_pos rfl, if_pos (newE_ok HO.out)]) (by unfold newW; rw [HO.out]; rfl) ?_
        exact end_store rfl rfl rfl hA7 ⟨_, _, _, rfl⟩ hR7 hB8 (Nat.le_refl _)
  · have HO := Lib.hid (newE_no hz)
    have b1 : (newE n == 0) = false := by rw [beq_eq_false_iff_ne]; exact hz
    have b2 : (newE n != 0) = true := by rw [bne, b1]; rfl
    clear hz
    generalize newE n = er at *
    have p0 := hA2.at0
    have p4 := hA2.at4
    obtain ⟨p1, p2, p3⟩ := hA2.mids
    have pf := hA2.free
    rw [HW1.out] at p0 p1 p2 p3 p4 pf
    go_wp2_with fail
    rw [← HW1.out]
    refine tell_at (S := St.zero) (er := 2) (by unfold newS; rw [HO.out]; rfl) (by unfold newW; rw [HO.out]; rfl) ?_
    exact end_none rfl rfl rfl hA2 hB2 (Nat.le_refl _)
end Go.Proofs.Ytmjbhmmcpjhmcaa
