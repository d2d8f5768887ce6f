/-
  Where a record lies; the next generation; which stores may be.
-/
import Derived.Test.YtmjbhmmcpjhmcaaLogA
import Derived.Deep.RegionHeld3
import Derived.Deep.QuietTactic
import Derived.BigQuiet
namespace Go.Proofs.Ytmjbhmmcpjhmcaa
open Go.RowKit
set_option linter.unusedVariables false

/-- what a call that only makes memory leaves as it was -/
def Stable (I : World → Prop) : Prop := ∀ w w' : World, I w → Below w.heap.size w w' → I w'
theorem Stable.cell (p : Addr) (v : Value) : Stable (fun w => w.cell? p = some v) := fun _ _ h hB => keepC hB h
theorem Stable.row (b : Nat) (o : Obj) : Stable (fun w => w.heap[b]? = some o) := fun _ _ h hB => keepB hB h
theorem Stable.rd (oa : Option Addr) (n cap : Nat) (ss : List ByteArray) : Stable (fun w => Rd w oa n cap ss) := fun _ _ h hB => h.below hB (Nat.le_refl _)
theorem Stable.below (w0 : World) : Stable (fun w => Below w0.heap.size w0 w) := fun _ _ h hB => h.trans (hB.mono h.size)
theorem Stable.and {I J : World → Prop} (h : Stable I) (k : Stable J) : Stable (fun w => I w ∧ J w) := fun _ _ q hB => ⟨h _ _ q.1 hB, k _ _ q.2 hB⟩
theorem Stable.true : Stable (fun _ => True) := fun _ _ _ _ => trivial
theorem Stable.drew {I : World → Prop} (h : Stable I) {w : World} (q : I w) : I w.drew := h _ _ q (Below.refl _ _).drew
theorem Stable.alloc {I : World → Prop} (h : Stable I) {w : World} (q : I w) (o : Obj) : I (w.alloc o) := h _ _ q (below_alloc w o)

/-- a world of a class -/
structure Cls (I : World → Prop) where
  w : World
  is : I w
theorem wp_region_class {P : Program} (I : World → Prop) {id : Nat} {Q : Exit → Act → World → Prop} {a : Act} {w : World} {l : List Oper} (hm : P.follows .mixedOrders = true) (hB : Region.lexB .any l.toArray = true) (hI : I w.drew)
    (h : wpQuiet P l.toArray (fun w' => ∃ x : Cls I, w' = x.w) (fun a' => ∀ w', (∃ x : Cls I, w' = x.w) → Q .normal a' w') l a) : (Code.region id l.toArray true).wp P Q a w :=
  wp_region_quiet (C := fun w' => ∃ x : Cls I, w' = x.w) hm hB ⟨⟨w.drew, hI⟩, rfl⟩ (by simpa using h)
theorem class_of {P : Program} {f : FuncId} {args : Array Value} {I : World → Prop} {x : Cls I} {v : Value} (hst : Stable I) (h : Calls P f args x.w fun e w' => e = .returned v ∧ Below x.w.heap.size x.w w') :
    Calls P f args x.w fun e w'' => e = .returned v ∧ ∃ y : Cls I, w'' = y.w := h.mono fun _ w' ⟨he, hB⟩ => ⟨he, ⟨w', hst _ _ x.is hB⟩, rfl⟩
theorem class_same {P : Program} {f : FuncId} {args : Array Value} {I : World → Prop} {x : Cls I} {v : Value} (h : Calls P f args x.w fun e w' => e = .returned v ∧ x.w = w') :
    Calls P f args x.w fun e w'' => e = .returned v ∧ ∃ y : Cls I, w'' = y.w := h.mono fun _ w' ⟨he, hB⟩ => ⟨he, x, hB.symm⟩

/-- where record i of a generation lies -/
def recZ (ss : List ByteArray) (g i : Int) : Int := 2 + g % 2 * roomZ ss + i
set_option maxHeartbeats 800000 in
theorem recordAt_any (oa : Option Addr) (n cap : Nat) (ss : List ByteArray) (g i : Int) (w : World) (hl : ss.length = n) (hn : n ≤ 1000) (h0 : 0 ≤ g) (h1 : g ≤ 1000) (h2 : 0 ≤ i) (h3 : i ≤ 1000) :
    Calls Try.prog 64 #[.agg #[.slice oa n cap], .int .i64 g, .int .i64 i] w fun e w' => e = .returned (.int .i64 (recZ ss g i)) ∧ Below w.heap.size w w' := by
  have hc : (w.alloc (.cells #[.slice oa n cap] 24)).cell? ⟨w.heap.size, 0, none⟩ = some (.slice oa n cap) := World.cell?_alloc_at _ _ _ _ rfl
  have hB0 := below_alloc w (.cells #[.slice oa n cap] 24)
  have hr1 : -1 ≤ roomZ ss := by unfold roomZ; omega
  have hr2 : roomZ ss ≤ 1000 := by unfold roomZ; omega
  have hg1 : 0 ≤ g % 2 := by omega
  have hg2 : g % 2 ≤ 1 := by omega
  have hm : -1 ≤ g % 2 * roomZ ss ∧ g % 2 * roomZ ss ≤ 1000 := by
    rcases (by omega : g % 2 = 0 ∨ g % 2 = 1) with e | e <;> rw [e] <;> omega
  obtain ⟨hm1, hm2⟩ := hm
  have HZ : Hid (recZ ss g i = 2 + g % 2 * roomZ ss + i) := rfl
  go_enter Try.func64, Try.ntmps64
  go_wp2_with fail
  generalize w.alloc (.cells #[.slice oa n cap] 24) = W at *
  go_region_held3 (fun w' => w'.cell? ⟨w.heap.size, 0, none⟩ = some (.slice oa n cap)) (first | exact keepC hB2 hc | exact hc | go_keep)
    (first | (go_at_call 61; refine (headerAt_any _ _ h0 h1).mono ?_; rintro e w2 ⟨rfl, rfl⟩) | (go_at_call 41; refine (room_any _ _ _ ss _ hl hn).mono ?_; rintro e w2 ⟨rfl, hB2⟩))
  go_wp2
  go_ret
  refine ⟨ret_int ?_, hB0.trans (below_undrew hB2 hB0.size)⟩
  rw [HZ.out, IntWalk.i64_in (g % 2 * roomZ ss) ⟨by omega, by omega⟩, IntWalk.i64_in (2 + g % 2 * roomZ ss) ⟨by omega, by omega⟩, IntWalk.i64_in _ ⟨by omega, by omega⟩]

/-- the least generation above all that is not of this one's area -/
def nextZ (g t : Int) : Int := if (t + 1) % 2 = g % 2 then t + 2 else t + 1
theorem next_yes {g t : Int} (h : (t + 1) % 2 = g % 2) : nextZ g t = t + 1 + 1 := by unfold nextZ; rw [if_pos h]; omega
theorem next_no {g t : Int} (h : (t + 1) % 2 ≠ g % 2) : nextZ g t = t + 1 := by unfold nextZ; rw [if_neg h]
set_option maxRecDepth 100000 in
set_option maxHeartbeats 800000 in
theorem nextGen_any (x : Value) (g u t : Int) (d : Bool) (w : World) (h0 : 0 ≤ g) (h1 : g ≤ 1000) (h2 : 0 ≤ t) (h3 : t ≤ 900) :
    Calls Try.prog 54 #[.agg #[x, .int .i64 g, .int .i64 u, .int .i64 t, .bool d]] w fun e w' => e = .returned (.int .i64 (nextZ g t)) ∧ Below w.heap.size w w' := by
  have hB0 := below_alloc w (.cells #[x, .int .i64 g, .int .i64 u, .int .i64 t, .bool d] 26)
  have hc : (w.alloc (.cells #[x, .int .i64 g, .int .i64 u, .int .i64 t, .bool d] 26)).cell? ⟨w.heap.size, 1, none⟩ = some (.int .i64 g) := World.cell?_alloc_at _ _ _ _ rfl
  obtain ⟨I, hID⟩ : ∃ I : World → Prop, I = fun wx => wx.cell? ⟨w.heap.size, 1, none⟩ = some (.int .i64 g) ∧ Below w.heap.size w wx := ⟨_, rfl⟩
  have q1 : ∀ y : Cls I, y.w.cell? ⟨w.heap.size, 1, none⟩ = some (.int .i64 g) := fun y => (congrFun hID y.w ▸ y.is : _ ∧ _).1
  have gB : Hid (∀ wx, I wx → Below w.heap.size w wx) := by intro wx h; rw [hID] at h; exact h.2
  have HD := Lib.hid hID
  clear hID
  have KA : Hid (∀ x : Cls I, Calls Try.prog 61 #[.int .i64 g] x.w fun e w'' => e = .returned (.int .i64 (g % 2)) ∧ ∃ y : Cls I, w'' = y.w) := fun x => class_same (headerAt_any g _ h0 h1)
  have KB : Hid (∀ x : Cls I, Calls Try.prog 61 #[.int .i64 (t + 1)] x.w fun e w'' => e = .returned (.int .i64 ((t + 1) % 2)) ∧ ∃ y : Cls I, w'' = y.w) := fun x => class_same (headerAt_any (t + 1) _ (by omega) (by omega))
  by_cases hz : (t + 1) % 2 = g % 2
  · have HZ := Lib.hid (next_yes hz)
    have hz' : ((t + 1) % 2 == g % 2) = true := by rw [beq_iff_eq]; exact hz
    have HH := Lib.hid hz
    clear hz
    go_enter Try.func54, Try.ntmps54
    go_wp2_with fail
    generalize w.alloc (.cells #[x, .int .i64 g, .int .i64 u, .int .i64 t, .bool d] 26) = W at *
    have hI : I W.drew := by rw [HD.out]; exact ⟨hc, hB0.drew⟩
    haveI : Nonempty (Cls I) := ⟨⟨_, hI⟩⟩
    refine wp_region_class I (by kernel_rfl) (by kernel_rfl) hI ?_
    repeat (go_big_quiet_step (first | exact KA.out _ | exact KB.out _))
    refine wpQuiet_nil ?_
    rintro _ ⟨x, rfl⟩
    go_wp2
    go_ret
    exact ⟨ret_int HZ.out.symm, gB.out _ x.is⟩
  · have HZ := Lib.hid (next_no hz)
    have hz' : ((t + 1) % 2 == g % 2) = false := by rw [beq_eq_false_iff_ne]; exact hz
    have HH := Lib.hid hz
    clear hz
    go_enter Try.func54, Try.ntmps54
    go_wp2_with fail
    generalize w.alloc (.cells #[x, .int .i64 g, .int .i64 u, .int .i64 t, .bool d] 26) = W at *
    have hI : I W.drew := by rw [HD.out]; exact ⟨hc, hB0.drew⟩
    haveI : Nonempty (Cls I) := ⟨⟨_, hI⟩⟩
    refine wp_region_class I (by kernel_rfl) (by kernel_rfl) hI ?_
    repeat (go_big_quiet_step (first | exact KA.out _ | exact KB.out _))
    refine wpQuiet_nil ?_
    rintro _ ⟨x, rfl⟩
    go_wp2
    go_ret
    exact ⟨ret_int HZ.out.symm, gB.out _ x.is⟩

/-- the cells of a store -/
def stoC (x : Value) (g u t : Int) (d : Bool) : Array Value := #[x, .int .i64 g, .int .i64 u, .int .i64 t, .bool d]
set_option maxHeartbeats 1600000 in
theorem right4_any (oa : Option Addr) (n cap : Nat) (ss : List ByteArray) (g u t : Int) (d : Bool) (w : World) (hR : Rd w oa n cap ss) (hn : n ≤ 1000) :
    Calls Try.prog 13 #[.agg #[.slice oa n cap, .int .i64 g, .int .i64 u, .int .i64 t, .bool d]] w fun e w' => e = .returned (.bool (stoB ss g u t)) ∧ Below w.heap.size w w' := by
  have hB0 := below_alloc w (.cells #[.slice oa n cap, .int .i64 g, .int .i64 u, .int .i64 t, .bool d] 26)
  obtain ⟨I, hID⟩ : ∃ I : World → Prop, I = fun wx => Rd wx oa n cap ss ∧ Below w.heap.size w wx ∧ wx.cell? ⟨w.heap.size, 0, none⟩ = some (.slice oa n cap) ∧ wx.cell? ⟨w.heap.size, 1, none⟩ = some (.int .i64 g) ∧ wx.cell? ⟨w.heap.size, 2, none⟩ = some (.int .i64 u) ∧ wx.cell? ⟨w.heap.size, 3, none⟩ = some (.int .i64 t) := ⟨_, rfl⟩
  have hI : I (w.alloc (.cells #[.slice oa n cap, .int .i64 g, .int .i64 u, .int .i64 t, .bool d] 26)) := by
    rw [hID]
    exact ⟨hR.below hB0 (Nat.le_refl _), hB0, World.cell?_alloc_at _ _ _ _ rfl, World.cell?_alloc_at _ _ _ _ rfl, World.cell?_alloc_at _ _ _ _ rfl, World.cell?_alloc_at _ _ _ _ rfl⟩
  have step : Hid (Stable I) := by
    rw [hID]
    exact (Stable.rd _ _ _ _).and ((Stable.below _).and ((Stable.cell _ _).and ((Stable.cell _ _).and ((Stable.cell _ _).and (Stable.cell _ _)))))
  have gR : Hid (∀ wx, I wx → Rd wx oa n cap ss) := by intro wx h; rw [hID] at h; exact h.1
  have gB : Hid (∀ wx, I wx → Below w.heap.size w wx) := by intro wx h; rw [hID] at h; exact h.2.1
  have gC : Hid (∀ wx, I wx → wx.cell? ⟨w.heap.size, 0, none⟩ = some (.slice oa n cap) ∧ wx.cell? ⟨w.heap.size, 1, none⟩ = some (.int .i64 g) ∧ wx.cell? ⟨w.heap.size, 2, none⟩ = some (.int .i64 u) ∧ wx.cell? ⟨w.heap.size, 3, none⟩ = some (.int .i64 t)) := by intro wx h; rw [hID] at h; exact h.2.2
  have hl := hR.len
  clear hID hB0 hR
  have gC0 : ∀ x : Cls I, x.w.cell? ⟨w.heap.size, 0, none⟩ = some (.slice oa n cap) := fun x => (gC.out _ x.is).1
  have gC1 : ∀ x : Cls I, x.w.cell? ⟨w.heap.size, 1, none⟩ = some (.int .i64 g) := fun x => (gC.out _ x.is).2.1
  have gC2 : ∀ x : Cls I, x.w.cell? ⟨w.heap.size, 2, none⟩ = some (.int .i64 u) := fun x => (gC.out _ x.is).2.2.1
  have gC3 : ∀ x : Cls I, x.w.cell? ⟨w.heap.size, 3, none⟩ = some (.int .i64 t) := fun x => (gC.out _ x.is).2.2.2
  have k1 : ∀ x : Cls I, ∀ b, logB ss = b → Calls Try.prog 33 #[.agg #[.slice oa n cap]] x.w fun e w'' => e = .returned (.bool b) ∧ ∃ y : Cls I, w'' = y.w :=
    fun x b hb => hb ▸ class_of step.out (hasLog_any _ _ _ ss _ (gR.out _ x.is) hn)
  have k2 : ∀ x : Cls I, Calls Try.prog 41 #[.agg #[.slice oa n cap]] x.w fun e w'' => e = .returned (.int .i64 (roomZ ss)) ∧ ∃ y : Cls I, w'' = y.w :=
    fun x => class_of step.out (room_any _ _ _ ss _ hl hn)
  have k3 : ∀ x : Cls I, ∀ n a b c, withinB n a b = c → Calls Try.prog 40 #[.int .i64 n, .int .i64 a, .int .i64 b] x.w fun e w'' => e = .returned (.bool c) ∧ ∃ y : Cls I, w'' = y.w :=
    fun x n a b c hb => hb ▸ class_same (within_any n a b _)
  have K1 := Lib.hid k1
  have K2 := Lib.hid k2
  have K3 := Lib.hid k3
  clear k1 k2 k3
  have hId := step.out.drew hI
  haveI : Nonempty (Cls I) := ⟨⟨_, hId⟩⟩
  cases h1 : logB ss
  · have E : Hid (false = stoB ss g u t) := by show _ = _; unfold stoB; rw [h1]; rfl
    have H1 := Lib.hid h1
    clear h1
    go_enter Try.func13, Try.ntmps13
    go_wp2_with fail
    generalize w.alloc (.cells #[.slice oa n cap, .int .i64 g, .int .i64 u, .int .i64 t, .bool d] 26) = W at *
    refine wp_region_class I (by kernel_rfl) (by kernel_rfl) hId ?_
    repeat (go_big_quiet_step (first | exact K1.out _ _ H1.out))
    refine wpQuiet_nil ?_
    rintro _ ⟨x, rfl⟩
    go_wp2
    go_ret
    exact ⟨ret_bool E.out, gB.out _ x.is⟩
  cases h2 : withinB g 1 250
  · have E : Hid (false = stoB ss g u t) := by show _ = _; unfold stoB; rw [h1, h2]; rfl
    have H1 := Lib.hid h1
    have H2 := Lib.hid h2
    clear h1 h2
    go_enter Try.func13, Try.ntmps13
    go_wp2_with fail
    generalize w.alloc (.cells #[.slice oa n cap, .int .i64 g, .int .i64 u, .int .i64 t, .bool d] 26) = W at *
    refine wp_region_class I (by kernel_rfl) (by kernel_rfl) hId ?_
    repeat (go_big_quiet_step (first | exact K1.out _ _ H1.out | exact K3.out _ _ _ _ _ H2.out))
    refine wpQuiet_nil ?_
    rintro _ ⟨x, rfl⟩
    go_wp2
    go_ret
    exact ⟨ret_bool E.out, gB.out _ x.is⟩
  cases h3 : withinB u 0 (roomZ ss)
  · have E : Hid (false = stoB ss g u t) := by show _ = _; unfold stoB; rw [h1, h2, h3]; rfl
    have H1 := Lib.hid h1
    have H2 := Lib.hid h2
    have H3 := Lib.hid h3
    clear h1 h2 h3
    go_enter Try.func13, Try.ntmps13
    go_wp2_with fail
    generalize w.alloc (.cells #[.slice oa n cap, .int .i64 g, .int .i64 u, .int .i64 t, .bool d] 26) = W at *
    refine wp_region_class I (by kernel_rfl) (by kernel_rfl) hId ?_
    repeat (go_big_quiet_step (first | exact K1.out _ _ H1.out | exact K2.out _ | exact K3.out _ _ _ _ _ H2.out | exact K3.out _ _ _ _ _ H3.out))
    refine wpQuiet_nil ?_
    rintro _ ⟨x, rfl⟩
    go_wp2
    go_ret
    exact ⟨ret_bool E.out, gB.out _ x.is⟩
  have E : Hid (withinB t g 250 = stoB ss g u t) := by show _ = _; unfold stoB; rw [h1, h2, h3]; rfl
  have H1 := Lib.hid h1
  have H2 := Lib.hid h2
  have H3 := Lib.hid h3
  clear h1 h2 h3
  go_enter Try.func13, Try.ntmps13
  go_wp2_with fail
  generalize w.alloc (.cells #[.slice oa n cap, .int .i64 g, .int .i64 u, .int .i64 t, .bool d] 26) = W at *
  refine wp_region_class I (by kernel_rfl) (by kernel_rfl) hId ?_
  repeat (go_big_quiet_step (first | exact K1.out _ _ H1.out | exact K2.out _ | exact K3.out _ _ _ _ _ H2.out | exact K3.out _ _ _ _ _ H3.out | exact K3.out _ t g 250 _ rfl))
  refine wpQuiet_nil ?_
  rintro _ ⟨x, rfl⟩
  go_wp2
  go_ret
  exact ⟨ret_bool E.out, gB.out _ x.is⟩
end Go.Proofs.Ytmjbhmmcpjhmcaa
