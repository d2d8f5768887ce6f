/-
  All writes, one behind the other, up to the one that is not made.
-/
import Derived.Test.YtmjbhmmcpjhmcaaLogH
import Derived.Test.YtmjbhmmcpjhmcaaLogI
import Derived.Test.YtmjbhmmcpjhmcaaLogJ
namespace Go.Proofs.Ytmjbhmmcpjhmcaa
open Go.RowKit
set_option linter.unusedVariables false

theorem leaves_congr {P : Program} {fn : Func} {t1 t2 : Array Value} {R : Ending → World → Prop} (h : results fn t1 = results fn t2) : ∀ (ds : List Deferred) (u : FrameMode) (w : World), Leaves P fn t1 R ds u w → Leaves P fn t2 R ds u w := by
  intro ds
  induction ds with
  | nil =>
    intro u w q
    cases u with
    | returning => obtain ⟨v, hv, hr⟩ := q; exact ⟨v, h ▸ hv, hr⟩
    | panicking c => exact q
    | run => exact q
  | cons d ds ih =>
    rintro u w ⟨hu, fv, cap, f, args, ht, hi, hc⟩
    refine ⟨hu, fv, cap, f, args, ht, hi, hc.mono ?_⟩
    intro e u' w' q
    cases e with
    | returned v => exact ih _ _ q
    | panicked c => exact ih _ _ q
    | outgrown => exact q
theorem written_put (t : Array Value) (j : Nat) (v : Value) (h6 : j ≠ 6) (h7 : j ≠ 7) : results Try.f34 (t.setIfInBounds j v) = results Try.f34 t := by
  simp [results, Array.getElem?_setIfInBounds, h6, h7]
theorem panic_put {R : Ending → World → Prop} {c : List PanicEntry} {a : Act} {w : World} (j : Nat) (v : Value) (h6 : j ≠ 6) (h7 : j ≠ 7) (h : bodyPostD Try.prog Try.f34 R (.panic c) (a.put (some j) v) w) : bodyPostD Try.prog Try.f34 R (.panic c) a w :=
  leaves_congr (written_put a.tmps j v h6 h7) _ _ _ h
theorem Rd.setInt {w : World} {oa : Option Addr} {n cap : Nat} {ss : List ByteArray} (h : Rd w oa n cap ss) {p : Addr} {k : IntKind} {x : Int} (hc : w.cell? p = some (.int k x)) (u : Value) : Rd (w.setCell p u) oa n cap ss := by
  refine ⟨h.len, h.room, fun i hi => ?_⟩
  obtain ⟨g, hg, hd⟩ := h.cell i hi
  refine ⟨g, hg, ?_⟩
  by_cases e : p = ⟨g, i, none⟩
  · subst e
    rw [hc] at hd
    cases hd
  · rw [World.cell?_setCell_other _ _ _ _ e]
    exact hd
theorem load5 {w : World} {A : Nat} {x : Value} {g u t : Int} {d : Bool} (h : SRow w A x g u t d) (hx : x.oneCell' = true) : (loadVar 26 ⟨A, 0, none⟩).run Try.prog w = .ok (.agg #[x, .int .i64 g, .int .i64 u, .int .i64 t, .bool d]) w := by
  have h0 := h.at0
  have h4 := h.at4
  obtain ⟨h1, h2, h3⟩ := h.mids
  simp [go_sem, h0, h1, h2, h3, h4]
theorem loadE {w : World} {B : Nat} {v : Value} (h : w.heap[B]? = some (.cells #[v] 29 (0, 0))) : (loadVar 29 ⟨B, 0, none⟩).run Try.prog w = .ok v w := by
  have h0 := cell_of_one h
  simp [go_sem, h0]
theorem ret_store {fn : Func} {p q : Tmp} (h : fn.results = #[.cell p 26, .cell q 29]) {tmps : Array Value} {w : World} {A B : Nat} {x : Value} {g u t er : Int} {d : Bool} (hp : tmps.getD p undef = .pointer (some ⟨A, 0, none⟩)) (hq : tmps.getD q undef = .pointer (some ⟨B, 0, none⟩))
    (hA : SRow w A x g u t d) (hx : x.oneCell' = true) (hB : w.heap[B]? = some (.cells #[.int .i64 er] 29 (0, 0))) :
    (results fn tmps).run Try.prog w = .ok (.tuple #[.agg #[x, .int .i64 g, .int .i64 u, .int .i64 t, .bool d], .int .i64 er]) w := by
  have l1 := load5 hA hx
  have l2 := loadE hB
  have hp' : tmps[p]?.getD undef = .pointer (some ⟨A, 0, none⟩) := by simpa using hp
  have hq' : tmps[q]?.getD undef = .pointer (some ⟨B, 0, none⟩) := by simpa using hq
  simp only [results, h]
  simp [hp', hq', asAddr, l1, l2]
theorem Rd.setNon {w : World} {oa : Option Addr} {n cap : Nat} {ss : List ByteArray} (h : Rd w oa n cap ss) {p : Addr} {v : Value} (hc : w.cell? p = some v) (hv : ∀ s, v ≠ .string s) (u : Value) : Rd (w.setCell p u) oa n cap ss := by
  refine ⟨h.len, h.room, fun i hi => ?_⟩
  obtain ⟨g, hg, hd⟩ := h.cell i hi
  refine ⟨g, hg, ?_⟩
  by_cases e : p = ⟨g, i, none⟩
  · subst e
    rw [hc] at hd
    cases hd
    exact absurd rfl (hv _)
  · rw [World.cell?_setCell_other _ _ _ _ e]
    exact hd
theorem SRow.again {w0 w : World} {A : Nat} {ob : Option Addr} {n m : Nat} {g u t er x : Int} {d : Bool} {ss : List ByteArray} (h : SRow w A (.slice ob n m) g u t d) (hY : w.heap[A + 1]? = some (.cells #[.int .i64 x] 29 (0, 0))) (hR : Rd w ob n m ss) (hB : Below w0.heap.size w0 w) (hA : w0.heap.size ≤ A) :
    ∃ W, W = ((((((w.setCell ⟨A, 0, none⟩ (.slice ob n m)).setCell ⟨A, 1, none⟩ (.int .i64 g)).setCell ⟨A, 2, none⟩ (.int .i64 u)).setCell ⟨A, 3, none⟩ (.int .i64 t)).setCell ⟨A, 4, none⟩ (.bool d)).setCell ⟨A + 1, 0, none⟩ (.int .i64 er)) ∧ SRow W A (.slice ob n m) g u t d ∧ W.heap[A + 1]? = some (.cells #[.int .i64 er] 29 (0, 0)) ∧ Rd W ob n m ss ∧ Below w0.heap.size w0 W := by
  have k0 : SRow (w.setCell ⟨A, 0, none⟩ (.slice ob n m)) A (.slice ob n m) g u t d := h.set0 _
  have k1 : SRow ((w.setCell ⟨A, 0, none⟩ (.slice ob n m)).setCell ⟨A, 1, none⟩ (.int .i64 g)) A (.slice ob n m) g u t d := by
    unfold SRow
    rw [heap_setCell_same _ _ _ _ _ _ k0]
    rfl
  have k2 : SRow (((w.setCell ⟨A, 0, none⟩ (.slice ob n m)).setCell ⟨A, 1, none⟩ (.int .i64 g)).setCell ⟨A, 2, none⟩ (.int .i64 u)) A (.slice ob n m) g u t d := by
    unfold SRow
    rw [heap_setCell_same _ _ _ _ _ _ k1]
    rfl
  have k3 : SRow ((((w.setCell ⟨A, 0, none⟩ (.slice ob n m)).setCell ⟨A, 1, none⟩ (.int .i64 g)).setCell ⟨A, 2, none⟩ (.int .i64 u)).setCell ⟨A, 3, none⟩ (.int .i64 t)) A (.slice ob n m) g u t d := by
    unfold SRow
    rw [heap_setCell_same _ _ _ _ _ _ k2]
    rfl
  have k4 := k3.set4 d
  have y : (((((w.setCell ⟨A, 0, none⟩ (.slice ob n m)).setCell ⟨A, 1, none⟩ (.int .i64 g)).setCell ⟨A, 2, none⟩ (.int .i64 u)).setCell ⟨A, 3, none⟩ (.int .i64 t)).setCell ⟨A, 4, none⟩ (.bool d)).heap[A + 1]? = some (.cells #[.int .i64 x] 29 (0, 0)) := by
    rw [Below.heap_setCell _ _ _ _ (by show A + 1 ≠ A; omega), Below.heap_setCell _ _ _ _ (by show A + 1 ≠ A; omega), Below.heap_setCell _ _ _ _ (by show A + 1 ≠ A; omega), Below.heap_setCell _ _ _ _ (by show A + 1 ≠ A; omega), Below.heap_setCell _ _ _ _ (by show A + 1 ≠ A; omega)]
    exact hY
  have r := (((((hR.setDisk h.at0 (.slice ob n m)).setInt k0.mids.1 (.int .i64 g)).setInt k1.mids.2.1 (.int .i64 u)).setInt k2.mids.2.2 (.int .i64 t)).setNon k3.at4 (by intro s; exact Value.noConfusion) (.bool d)).setInt (cell_of_one y) (.int .i64 er)
  refine ⟨_, rfl, ?_, one_setCell y, r, ?_⟩
  · unfold SRow
    rw [Below.heap_setCell _ _ _ _ (by show A ≠ A + 1; omega)]
    exact k4
  · have p0 : w0.heap.size ≤ A := hA
    exact (((((hB.setCell (p := ⟨A, 0, none⟩) p0 _).setCell (p := ⟨A, 1, none⟩) p0 _).setCell (p := ⟨A, 2, none⟩) p0 _).setCell (p := ⟨A, 3, none⟩) p0 _).setCell (p := ⟨A, 4, none⟩) p0 _).setCell (p := ⟨A + 1, 0, none⟩) (by show w0.heap.size ≤ A + 1; omega) _
/-- what is told of a store, and why -/
def ToldS (e : Ending) (w' : World) (n : Nat) (ss : List ByteArray) (g u t : Int) (d : Bool) (er : Int) : Prop :=
  ∃ ob m, e = .returned (.tuple #[.agg #[.slice ob n m, .int .i64 g, .int .i64 u, .int .i64 t, .bool d], .int .i64 er]) ∧ Rd w' ob n m ss
theorem door_ret {tmps : Array Value} {w w5 : World} {A : Nat} {ob : Option Addr} {n m : Nat} {ss : List ByteArray} {g u t : Int} {d : Bool} {er : Int} (h6 : tmps.getD 6 undef = .pointer (some ⟨A, 0, none⟩)) (h7 : tmps.getD 7 undef = .pointer (some ⟨A + 1, 0, none⟩))
    (hS : SRow w5 A (.slice ob n m) g u t d) (hY : w5.heap[A + 1]? = some (.cells #[.int .i64 er] 29 (0, 0))) (hR : Rd w5 ob n m ss) (hB : Below w.heap.size w w5) :
    Leaves Try.prog Try.f34 tmps (fun e w' => ToldS e w' n ss g u t d er ∧ Below w.heap.size w w') [{ target := .fn (.func 58) #[.pointer (some ⟨A + 1, 0, none⟩)], args := #[] }] .returning w5 := by
  refine leaves_cons (f := 58) (args := #[.pointer (some ⟨A + 1, 0, none⟩)]) (by simp) (by simp [go_sem]) ?_
  refine (catch_none (A + 1) w5).mono ?_
  rintro e u' w'' ⟨rfl, rfl, rfl⟩
  exact ⟨_, ret_store rfl h6 h7 hS rfl hY, ⟨ob, m, rfl, hR⟩, hB⟩
theorem door_panic {tmps : Array Value} {w w5 : World} {A : Nat} {ob : Option Addr} {n m : Nat} {ss : List ByteArray} {g u t x : Int} {d : Bool} (er : Int) (h6 : tmps.getD 6 undef = .pointer (some ⟨A, 0, none⟩)) (h7 : tmps.getD 7 undef = .pointer (some ⟨A + 1, 0, none⟩))
    (hS : SRow w5 A (.slice ob n m) g u t d) (hY : w5.heap[A + 1]? = some (.cells #[.int .i64 x] 29 (0, 0))) (hR : Rd w5 ob n m ss) (hB : Below w.heap.size w w5) (hA : w.heap.size ≤ A) :
    Leaves Try.prog Try.f34 tmps (fun e w' => ToldS e w' n ss g u t d er ∧ Below w.heap.size w w') [{ target := .fn (.func 58) #[.pointer (some ⟨A + 1, 0, none⟩)], args := #[] }] (.panicking [notV er]) w5 := by
  refine leaves_cons (f := 58) (args := #[.pointer (some ⟨A + 1, 0, none⟩)]) (by simp) (by simp [go_sem]) ?_
  refine (catch_made (A + 1) x er [] w5 (cell_of_one hY) (free_of_one hY)).mono ?_
  rintro e u' w'' ⟨rfl, rfl, rfl⟩
  have hB1 := below_alloc w5 (.cells #[.int .i64 er] 89)
  have hS1 := hS.keep hB1
  have hY1 := keepB hB1 hY
  have hR1 := (hR.below hB1 (Nat.le_refl _)).setInt (cell_of_one hY1) (.int .i64 er)
  refine ⟨_, ret_store rfl h6 h7 (w := (w5.alloc (.cells #[.int .i64 er] 89)).setCell ⟨A + 1, 0, none⟩ (.int .i64 er)) (x := .slice ob n m) (g := g) (u := u) (t := t) (d := d) (er := er) ?_ rfl (one_setCell hY1), ⟨ob, m, rfl, hR1⟩, (hB.trans (hB1.mono hB.size)).setCell (p := ⟨A + 1, 0, none⟩) (by show w.heap.size ≤ A + 1; omega) _⟩
  unfold SRow
  rw [Below.heap_setCell _ _ _ _ (by show A ≠ A + 1; omega)]
  exact hS1
theorem door_at {tmps : Array Value} {w w5 : World} {n : Nat} {M M' : List ByteArray × Bool × Int} {g u t : Int} {ds : List Deferred} {um : FrameMode} (h : M = M')
    (q : Leaves Try.prog Try.f34 tmps (fun e w' => ToldS e w' n M'.1 g u t M'.2.1 M'.2.2 ∧ Below w.heap.size w w') ds um w5) :
    Leaves Try.prog Try.f34 tmps (fun e w' => ToldS e w' n M.1 g u t M.2.1 M.2.2 ∧ Below w.heap.size w w') ds um w5 := h ▸ q
set_option maxRecDepth 100000 in
set_option maxHeartbeats 3200000 in
theorem written_any (oa : Option Addr) (n cap : Nat) (ss : List ByteArray) (g u tp : Int) (d : Bool) (op : Option Addr) (np cp : Nat) (ps : List (Nat × ByteArray)) (of : Option Addr) (nf cf : Nat) (fs : List (Int × Int)) (w : World)
    (hR : Rd w oa n cap ss) (hL : logB ss = true) (hP : PRd w op np cp ps) (hnp : np ≤ 100) (hp : ∀ q ∈ ps, q.1 < ss.length ∧ q.2.size = 128) (hF : FRd w of nf cf fs) (hnf : nf ≤ 1000) (hf : ∀ f ∈ fs, faultB f = true) :
    Calls Try.prog 34 #[.agg #[.slice oa n cap, .int .i64 g, .int .i64 u, .int .i64 tp, .bool d], .slice op np cp, .slice of nf cf] w fun e w' =>
      ToldS e w' n (wrM ss d ps fs).1 g u tp (wrM ss d ps fs).2.1 (wrM ss d ps fs).2.2 ∧ Below w.heap.size w w' := by
  have hlen := hR.len
  have hn : n ≤ 1000 := by have := (log_bounds hL).2; omega
  obtain ⟨ga, rfl, _⟩ := hR.cell 0 (by have := (log_bounds hL).1; omega)
  have hmf : ∀ (fn : Fn) (first cap : Array Value) (w : World), (Instr.makeFunc fn first cap).run Try.prog w = .ok (.func fn first cap) w := fun _ _ _ _ => rfl
  obtain ⟨W0, hW0⟩ : ∃ W0, W0 = ((w.alloc (.cells #[.slice (some ⟨ga, 0, none⟩) n cap, .int .i64 g, .int .i64 u, .int .i64 tp, .bool d] 26)).alloc (.cells #[.slice (some ⟨ga, 0, none⟩) n cap, .int .i64 g, .int .i64 u, .int .i64 tp, .bool d] 26)).alloc (.cells #[.int .i64 0] 29) := ⟨_, rfl⟩
  have hB0 : Below w.heap.size w W0 := by rw [hW0]; exact ((below_alloc w _).alloc (by simp) _).alloc (by simp; omega) _
  have hs0 : w.heap.size + 3 ≤ W0.heap.size := by rw [hW0]; simp
  have hA0 : SRow W0 (w.heap.size + 1) (.slice (some ⟨ga, 0, none⟩) n cap) g u tp d := by
    unfold SRow
    rw [hW0, Below.heap_alloc _ _ _ (by simp)]
    have := heap_alloc_new (w.alloc (.cells #[.slice (some ⟨ga, 0, none⟩) n cap, .int .i64 g, .int .i64 u, .int .i64 tp, .bool d] 26)) (.cells #[.slice (some ⟨ga, 0, none⟩) n cap, .int .i64 g, .int .i64 u, .int .i64 tp, .bool d] 26)
    simpa using this
  have hY0 : W0.heap[w.heap.size + 1 + 1]? = some (.cells #[.int .i64 0] 29 (0, 0)) := by
    rw [hW0]
    have := heap_alloc_new ((w.alloc (.cells #[.slice (some ⟨ga, 0, none⟩) n cap, .int .i64 g, .int .i64 u, .int .i64 tp, .bool d] 26)).alloc (.cells #[.slice (some ⟨ga, 0, none⟩) n cap, .int .i64 g, .int .i64 u, .int .i64 tp, .bool d] 26)) (.cells #[.int .i64 0] 29)
    simpa using this
  have HW := Lib.hid hW0
  clear hW0
  go_enter_defers Try.func34, Try.ntmps34
  go_wp2_with fail
  rw [← HW.out]
  clear HW
  refine (ownDisk_any ga n cap ss _ (hR.below hB0 (Nat.le_refl _)) hn).mono ?_
  rintro e w1 ⟨⟨ob, m, rfl, hR1⟩, hB1⟩
  have hA1 := hA0.keep hB1
  have hY1 := keepB hB1 hY0
  have hBB := hB0.trans (hB1.mono hB0.size)
  have hs1 := Nat.le_trans hs0 hB1.size
  have a1 := hA1.at0
  have f1 := hA1.free 0
  have hA2 := hA1.set0 (.slice ob n m)
  have hR2 := hR1.setDisk a1 (.slice ob n m)
  have hY2 : (w1.setCell ⟨w.heap.size + 1, 0, none⟩ (.slice ob n m)).heap[w.heap.size + 1 + 1]? = some (.cells #[.int .i64 0] 29 (0, 0)) := (Below.heap_setCell _ _ _ _ (by show w.heap.size + 1 + 1 ≠ w.heap.size + 1; omega)).trans hY1
  have hB2 := hBB.setCell (p := ⟨w.heap.size + 1, 0, none⟩) (by show w.heap.size ≤ w.heap.size + 1; omega) (.slice ob n m)
  have hs2 : w.heap.size + 3 ≤ (w1.setCell ⟨w.heap.size + 1, 0, none⟩ (.slice ob n m)).heap.size := by simpa [World.setCell] using hs1
  have HS := Lib.hid hA2
  have HR := Lib.hid hR2
  have HY := Lib.hid hY2
  have HB := Lib.hid hB2
  have Hs := Lib.hid hs2
  clear hA0 hY0 hB0 hs0 hA1 hB1 hR1 hY1 hBB hs1 hA2 hR2 hY2 hB2 hs2
  have hPl := hP.len
  go_wp2_with fail
  generalize w1.setCell ⟨w.heap.size + 1, 0, none⟩ (.slice ob n m) = W2 at *
  clear a1 f1
  go_loopw [18] (fun i wr => ∃ (k : Nat) (sk : List ByteArray) (ob : Option Addr) (m : Nat), k ≤ np ∧ i = .int .i64 k ∧ Hid (SRow wr (w.heap.size + 1) (.slice ob n m) g u tp d) ∧ Hid (wr.heap[w.heap.size + 1 + 1]? = some (.cells #[.int .i64 0] 29 (0, 0))) ∧ Hid (Rd wr ob n m sk) ∧ Hid (logB sk = true ∧ sk.length = ss.length ∧ wrM ss d ps fs = wrM sk d (ps.drop k) (fs.drop k)) ∧ Hid (Below w.heap.size w wr) ∧ Hid (w.heap.size + 3 ≤ wr.heap.size)) (fun i _ => np - (intOf i).toNat)
  case atStart => exact ⟨0, ss, ob, m, Nat.zero_le _, rfl, HS, HY, HR, ⟨hL, rfl, rfl⟩, HB, Hs⟩
  case round =>
    clear HS HY HR HB Hs
    obtain ⟨k, sk, ob, m, hk, rfl, HS, HY, HR, HM, HB, Hs⟩ := hrel
    by_cases h8 : k < np
    · obtain ⟨gp, rfl, pc0, pc1⟩ := hP.cell k h8
      have c0 := (HB.out.cell (p := ⟨gp, k * 2, none⟩) (World.block_lt_of_cell? w _ pc0)).trans pc0
      have c1 := (HB.out.cell (p := ⟨gp, k * 2 + 1, none⟩) (World.block_lt_of_cell? w _ pc1)).trans pc1
      obtain ⟨hq1, hq2⟩ := page_at hp (k := k) (by omega)
      obtain ⟨hf1, hf2, hf3, hf4⟩ := (fault_iff _).1 (fault_at hf k)
      have HF := Lib.hid (hF.below HB.out (Nat.le_refl _))
      have E1 := Lib.hid (wr_fail sk d ps fs k (by omega))
      have E2 := Lib.hid (wr_crash sk d ps fs k (by omega))
      have E3 := Lib.hid (wr_ok sk d ps fs k (by omega))
      have HN := Lib.hid (nth_any of nf cf fs k)
      clear pc0 pc1 hf hp
      generalize (ps.getD k (0, ByteArray.empty)).1 = qi at *
      generalize (ps.getD k (0, ByteArray.empty)).2 = qt at *
      generalize (fs.getD k (0, 0)).1 = fk at *
      generalize (fs.getD k (0, 0)).2 = fK at *
      obtain ⟨fn, rfl⟩ := Int.eq_ofNat_of_zero_le hf3
      have hj : (k : Int) < (np : Int) := by omega
      have hj0 : (0 : Int) ≤ (k : Int) := by omega
      obtain ⟨W3, hW3⟩ : ∃ W3, W3 = wr.alloc (.cells #[.int .i64 (qi : Int), .string qt] 67) := ⟨_, rfl⟩
      have HW := Lib.hid hW3
      have d0 : W3.cell? ⟨wr.heap.size, 0, none⟩ = some (.int .i64 (qi : Int)) := by rw [hW3]; simp
      have d1 : W3.cell? ⟨wr.heap.size, 1, none⟩ = some (.string qt) := by rw [hW3]; simp
      have hB3 : Below wr.heap.size wr W3 := by rw [hW3]; exact below_alloc wr _
      have HB3 := Lib.hid hB3
      clear hW3 hB3
      go_wp2_with fail
      rw [← HW.out]
      refine wp_region_any (by kernel_rfl) ?_
      change wpAny _ _ _ _ _ _ _ (World.drew _)
      refine wpAny_take (i := 1) (v := .slice of nf cf) rfl (by kernel_rfl) (by kernel_rfl) (by kernel_rfl) (fun c a w h => by exact panic_put 24 (.slice of nf cf) (by decide) (by decide) h) (Or.inl ⟨by rfl, fun w => by go_simp⟩) ?_
      refine wpAny_take (i := 2) (v := .int .i64 (k : Int)) rfl (by kernel_rfl) (by kernel_rfl) (by kernel_rfl) (fun c a w h => by exact panic_put 25 (.int .i64 (k : Int)) (by decide) (by decide) h) (Or.inl ⟨by rfl, fun w => by go_simp⟩) ?_
      refine wpAny_ready (rs := [0, 3]) (by kernel_rfl) (by simp) ?_
      refine AllReady.cons rfl (fun K hK => ?_) ?_
      · go_simp
        refine hK _ _ ?_
        clear hK K
        refine wpAny_ready (rs := [3]) (by kernel_rfl) (by simp) ?_
        refine AllReady.cons rfl (fun K hK => ?_) AllReady.nil
        go_simp
        go_wp2_with (first | (go_at_call 60; refine (HN.out W3.drew (HF.out.below (HB3.out.drew) (Nat.le_refl _)) hnf (by omega)).mono ?_; rintro e w4 ⟨rfl, hB4⟩; have e0 := keepC hB4 d0; have e1 := keepC hB4 d1))
        refine wpAny_ready (rs := [4]) (by kernel_rfl) (by simp) ?_
        refine AllReady.cons rfl (fun K hK => ?_) AllReady.nil
        go_simp
        have hS4 := (HS.out.keep HB3.out).keep (w := W3.drew) hB4
        have hR4 := ((HR.out.below HB3.out (Nat.le_refl _)).drew).below hB4 (Nat.le_refl _)
        have hY4 := keepB (w := W3.drew) hB4 (keepB HB3.out.drew HY.out)
        have hBB4 := (HB.out.trans (HB3.out.mono HB.out.size)).trans (below_undrew hB4 (Nat.le_trans HB.out.size HB3.out.size))
        have hs4 : w.heap.size + 3 ≤ w4.heap.size := Nat.le_trans Hs.out (Nat.le_trans HB3.out.size hB4.size)
        rcases (by omega : fk = 0 ∨ fk = 1 ∨ fk = 2) with rfl | rfl | rfl
        · refine (write_ok (w.heap.size + 1) ob n m sk g u tp d qi qt _ w4 hS4 hR4 HM.out.1 (by have := HM.out.2.1; omega) hq2).mono ?_
          rintro e w5 ⟨rfl, ⟨ob5, m5, hS5, hR5⟩, hB5⟩
          have hY5 := (hB5.block (w.heap.size + 1 + 1) (by omega) (by omega)).trans hY4
          have hBB5 := hBB4.trans (hB5.below (C := w.heap.size) (by omega) (by omega))
          have hs5 := Nat.le_trans hs4 hB5.size
          have HS5 := Lib.hid hS5
          have HR5 := Lib.hid hR5
          have HY5 := Lib.hid hY5
          have HB5 := Lib.hid hBB5
          have Hs5 := Lib.hid hs5
          clear hS4 hR4 hY4 hBB4 hs4 hS5 hR5 hY5 hBB5 hs5 hB5 hB4 e0 e1 d0 d1
          refine hK _ _ ?_
          clear hK K
          refine wpAny_done (by kernel_rfl) ?_ _
          go_wp2_with fail
          go_roundw
          case rel => exact ⟨k + 1, sk.set qi qt, ob5, m5, by omega, by go_num, HS5, HY5, HR5, ⟨log_set HM.out.1 _ hq2, by rw [List.length_set]; exact HM.out.2.1, HM.out.2.2.trans (E3.out (by decide) (by decide))⟩, HB5, Hs5⟩
          case measure => simp [intOf]; omega
        · refine (write_fail (w.heap.size + 1) qi qt _ w4).mono ?_
          rintro e w5 ⟨rfl, hB5⟩
          have E := HM.out.2.2.trans (E1.out rfl)
          exact door_at E (door_panic 8 rfl rfl (hS4.keep hB5) (keepB hB5 hY4) (hR4.below hB5 (Nat.le_refl _)) (hBB4.trans (hB5.mono hBB4.size)) (by omega))
        · refine (write_crash (w.heap.size + 1) ob n m sk g u tp d qi qt fn w4 hS4 hR4 HM.out.1 (by have := HM.out.2.1; omega) hq2 (by omega)).mono ?_
          rintro e w5 ⟨rfl, ⟨ob5, m5, hS5, hR5⟩, hB5⟩
          have E := HM.out.2.2.trans (E2.out rfl)
          exact door_at E (door_panic 9 rfl rfl hS5 ((hB5.block (w.heap.size + 1 + 1) (by omega) (by omega)).trans hY4) hR5 (hBB4.trans (hB5.below (C := w.heap.size) (by omega) (by omega))) (by omega))
      · refine AllReady.cons rfl (fun K hK => ?_) AllReady.nil
        go_simp
        go_wp2_with (first | (go_at_call 60; refine (HN.out W3.drew (HF.out.below (HB3.out.drew) (Nat.le_refl _)) hnf (by omega)).mono ?_; rintro e w4 ⟨rfl, hB4⟩; have e0 := keepC hB4 d0; have e1 := keepC hB4 d1))
        refine wpAny_ready (rs := [0]) (by kernel_rfl) (by simp) ?_
        refine AllReady.cons rfl (fun K hK => ?_) AllReady.nil
        go_simp
        refine hK _ _ ?_
        clear hK K
        refine wpAny_ready (rs := [4]) (by kernel_rfl) (by simp) ?_
        refine AllReady.cons rfl (fun K hK => ?_) AllReady.nil
        go_simp
        have hS4 := (HS.out.keep HB3.out).keep (w := W3.drew) hB4
        have hR4 := ((HR.out.below HB3.out (Nat.le_refl _)).drew).below hB4 (Nat.le_refl _)
        have hY4 := keepB (w := W3.drew) hB4 (keepB HB3.out.drew HY.out)
        have hBB4 := (HB.out.trans (HB3.out.mono HB.out.size)).trans (below_undrew hB4 (Nat.le_trans HB.out.size HB3.out.size))
        have hs4 : w.heap.size + 3 ≤ w4.heap.size := Nat.le_trans Hs.out (Nat.le_trans HB3.out.size hB4.size)
        rcases (by omega : fk = 0 ∨ fk = 1 ∨ fk = 2) with rfl | rfl | rfl
        · refine (write_ok (w.heap.size + 1) ob n m sk g u tp d qi qt _ w4 hS4 hR4 HM.out.1 (by have := HM.out.2.1; omega) hq2).mono ?_
          rintro e w5 ⟨rfl, ⟨ob5, m5, hS5, hR5⟩, hB5⟩
          have hY5 := (hB5.block (w.heap.size + 1 + 1) (by omega) (by omega)).trans hY4
          have hBB5 := hBB4.trans (hB5.below (C := w.heap.size) (by omega) (by omega))
          have hs5 := Nat.le_trans hs4 hB5.size
          have HS5 := Lib.hid hS5
          have HR5 := Lib.hid hR5
          have HY5 := Lib.hid hY5
          have HB5 := Lib.hid hBB5
          have Hs5 := Lib.hid hs5
          clear hS4 hR4 hY4 hBB4 hs4 hS5 hR5 hY5 hBB5 hs5 hB5 hB4 e0 e1 d0 d1
          refine hK _ _ ?_
          clear hK K
          refine wpAny_done (by kernel_rfl) ?_ _
          go_wp2_with fail
          go_roundw
          case rel => exact ⟨k + 1, sk.set qi qt, ob5, m5, by omega, by go_num, HS5, HY5, HR5, ⟨log_set HM.out.1 _ hq2, by rw [List.length_set]; exact HM.out.2.1, HM.out.2.2.trans (E3.out (by decide) (by decide))⟩, HB5, Hs5⟩
          case measure => simp [intOf]; omega
        · refine (write_fail (w.heap.size + 1) qi qt _ w4).mono ?_
          rintro e w5 ⟨rfl, hB5⟩
          have E := HM.out.2.2.trans (E1.out rfl)
          exact door_at E (door_panic 8 rfl rfl (hS4.keep hB5) (keepB hB5 hY4) (hR4.below hB5 (Nat.le_refl _)) (hBB4.trans (hB5.mono hBB4.size)) (by omega))
        · refine (write_crash (w.heap.size + 1) ob n m sk g u tp d qi qt fn w4 hS4 hR4 HM.out.1 (by have := HM.out.2.1; omega) hq2 (by omega)).mono ?_
          rintro e w5 ⟨rfl, ⟨ob5, m5, hS5, hR5⟩, hB5⟩
          have E := HM.out.2.2.trans (E2.out rfl)
          exact door_at E (door_panic 9 rfl rfl hS5 ((hB5.block (w.heap.size + 1 + 1) (by omega) (by omega)).trans hY4) hR5 (hBB4.trans (hB5.below (C := w.heap.size) (by omega) (by omega))) (by omega))
    · obtain rfl : k = np := by omega
      have E : Hid (wrM ss d ps fs = (sk, d, 0)) := by
        show _ = _
        rw [HM.out.2.2, ← hPl, wr_end]
      have a0 := HS.out.at0
      have a4 := HS.out.at4
      have fr := HS.out.free
      obtain ⟨a1, a2, a3⟩ := HS.out.mids
      have b0 := cell_of_one HY.out
      have fb := free_of_one HY.out
      go_wp2_with fail
      obtain ⟨W, hW, q1, q2, q3, q4⟩ := SRow.again (er := 0) HS.out HY.out HR.out HB.out (by omega)
      rw [← hW]
      exact door_at E.out (door_ret rfl rfl q1 q2 q3 q4)
end Go.Proofs.Ytmjbhmmcpjhmcaa
