/-
  Labels: a row that is collected out of an iterator over another one.
-/
import Derived.Test.YthncfcjkpcjkiaaGreatDoorLabM
import Derived.Test.YthncfcjkpcjkiaaGreatDoorLApp
import Derived.RangeFuncNested
import Derived.RangeFuncBound
import Derived.RangeFuncCalls
import Derived.RangeFuncLeaves
import Derived.Shelf.Abstract
import Derived.Shelf.RegionOpen
import Derived.OwnWalk
import Derived.OwnWalkIn
import Derived.TacticsInMore
import Derived.LoopNIn
import Derived.LoopIn
import Derived.RangeFuncBox
import Derived.Maps.AppendAt
namespace Go.Proofs.YthncfcjkpcjkiaaGreatDoor
open Go.RowKit Go.Shelf
attribute [local go_sem] Oper.semAt_some
set_option linter.unusedVariables false

/-- the list's first k -/
theorem takeLab_next (l : List L2) (k : Nat) (hk : k < l.length) : l.take (k + 1) = l.take k ++ [l.getD k zL] := by
  rw [List.take_succ_eq_append_getElem hk, getD_L l k hk]
set_option maxRecDepth 100000 in
set_option maxHeartbeats 2000000 in
theorem vals1_in (n l Bs n₀ : Nat) (hn : 1 ≤ n) (oa : Option Addr) (m cap : Nat) (ds : List L2) (Jv Jx : List L2 → World → Prop) (hm : m ≤ 70) (W0 : World) (hn₀ : W0.heap.size ≤ n₀) (hn₁ : n₀ ≤ W0.heap.size)
    (hY : ∀ pre x W, Jv pre W → pre.length < m → YieldAt Fence.wide (n - 1) Tryz.prog l #[.agg #[.string x.1, .string x.2]] W fun e W' =>
      (e = .returned (.bool true) ∧ Jv (pre ++ [x]) W' ∧ Below n₀ W W') ∨ (e = .returned (.bool false) ∧ Jx (pre ++ [x]) W'))
    (hA : ∀ pre W o, Jv pre W → Jv pre (W.alloc o)) (W : World) (hB : Below n₀ W0 W) (hBs : W.cell? ⟨Bs, 0, none⟩ = some (.slice oa m cap)) (hD : Ls W0 oa m cap ds) (h0 : Jv [] W) :
    CallsIn Fence.wide n Tryz.prog 88 #[.func (.yield l) #[] #[], .pointer (some ⟨Bs, 0, none⟩)] W fun e W' => (∃ v, e = .returned v) ∧
      (Jv ds W' ∨ (∃ k, k ≤ m ∧ Jx (ds.take k) W')) := by
  have hl := hD.len
  refine callsIn_of_wp Tryz.func88 rfl trivial ?_ rfl
  simp only [Tryz.ntmps88, List.size_toArray, List.length_cons, List.length_nil, Nat.reduceAdd, Nat.reduceSub, Array.replicate_succ, Array.replicate_zero, List.push_toArray, List.append_toArray, List.nil_append, List.cons_append]
  gi_wp2
  gi_loopw [4, 7] (fun _ i wr => ∃ k : Nat, k ≤ m ∧ i = .int .i64 k ∧ Jv (ds.take k) wr ∧ Below n₀ W0 wr)
    (fun _ i _ => m - (intOf i).toNat)
  case atStart => exact ⟨0, Nat.zero_le _, rfl, h0, hB⟩
  case round =>
    obtain ⟨k, hk, rfl, hJs, hnx⟩ := hrel
    by_cases hlt : k < m
    · obtain ⟨g, o, rfl, c0, c1⟩ := (hD.below hnx hn₀).cell k hlt
      have hr := hD.room
      have HX := Lib.hid (takeLab_next ds k (by omega))
      have hlen : (ds.take k).length < m := by rw [List.length_take]; omega
      generalize hx : ds.getD k zL = x at *
      obtain ⟨a, i⟩ := x
      dsimp only at c0 c1
      have hJA := hA _ _ (.cells #[.string a, .string i] 52) hJs
      obtain ⟨fn, tmps, assign, body, hy, hR⟩ := hY _ (a, i) _ hJA hlen
      dsimp only at hy
      clear hx
      gi_wp2
      refine hR.mono ?_
      rintro e W3 (⟨rfl, hJ3, hk3⟩ | ⟨rfl, hJx3⟩)
      · gi_wp2
        go_roundw
        case rel => exact ⟨k + 1, by omega, by simp, by rw [HX.out]; exact hJ3, (hnx.alloc (by have := hnx.size; omega) _).trans hk3⟩
        case measure => simp [intOf]; omega
      · gi_wp2
        refine bodyPost_ret (results_none rfl _ _ _) rfl ?_
        exact ⟨⟨_, rfl⟩, .inr ⟨k + 1, by omega, by rw [HX.out]; exact hJx3⟩⟩
    · obtain rfl : k = m := by omega
      rw [List.take_of_length_le (by omega)] at hJs
      gi_wp2
      go_end0
      exact ⟨⟨_, rfl⟩, .inl hJs⟩
theorem vals_stops (n : Nat) (hn : 1 ≤ n) (Bs : Nat) (oa : Option Addr) (m cap : Nat) (ds : List L2) (hm : m ≤ 70) (w : World) (hBs : Bs < w.heap.size) (hc : w.cell? ⟨Bs, 0, none⟩ = some (.slice oa m cap)) (hD : Ls w oa m cap ds) :
    SeqStopsK Fence.wide n Tryz.prog 88 #[.pointer (some ⟨Bs, 0, none⟩)] (fun x : L2 => #[Value.agg #[.string x.1, .string x.2]]) (Below w.heap.size)
      (fun ys => ys = ds) (fun pre => ∃ k, k ≤ m ∧ pre = ds.take k) m w := fun l Jv Jx W hW hJ _ hY h0 => by
  refine (vals1_in n l Bs w.heap.size hn oa m cap ds Jv Jx hm w (Nat.le_refl _) (Nat.le_refl _) hY (fun pre W' o h => ?_) W hW ((hW.cell (p := ⟨Bs, 0, none⟩) hBs).trans hc) hD h0).mono ?_
  · exact hJ _ _ _ none h (World.grownBy_alloc W' o none) (fun r e => by cases e)
  · rintro e W' ⟨he, hj | ⟨k, hk, hj⟩⟩
    · exact ⟨he, .inl ⟨_, rfl, hj⟩⟩
    · exact ⟨he, .inr ⟨_, ⟨k, hk, rfl⟩, hj⟩⟩
/-- a loop over an iterator whose variable lies in a block of its own, and which is not left ahead of its end -/
theorem range_boxed {α : Type} {g : Operand} {ps : Array Tmp} {assign body : Code} {Q : Exit → Act → World → Prop} {a : Act} {w w0 : World} {n n₀ N gf : Nat} {lb : Array Value} {encs : α → Array Value} {S Sp : List α → Prop}
    (h1 : 1 ≤ n) (hg : a.eval g = .func (.func gf) #[] lb) (eg : ∀ args w, (callFunc gf args).run Tryz.prog w = .ok (.enter gf args) w)
    (hseq : SeqStopsK Fence.wide (n - 1) Tryz.prog gf lb encs (Below n₀) S Sp N w0) (hn₀ : n₀ ≤ w.heap.size) (hb0 : Below w0.heap.size w0 w) (hps : ∀ x, (encs x).size = ps.size)
    (I : List α → World → Prop) (hI : OwnFrom w.heap.size I) (h0 : I [] w) (ob : α → Obj) (hob : ∀ x, (ob x).isCells = true) (a₁ : α → Nat → Act)
    (hassign : ∀ (l : Nat) (x : α) (W : World) (K : Act → World → Prop), K (a₁ x W.heap.size) (W.alloc (ob x)) →
      assign.wpIn (Fence.wide.inRound l) (n - 1 - 1) Tryz.prog (Exit.then K (fun _ _ _ => False)) { tmps := (ps.zip (encs x)).foldl (fun t (p, v) => t.setIfInBounds p v) a.tmps, defers := [] } W)
    (hbody : ∀ (l : Nat) (pre : List α) (x : α) (B : Nat) (W : World), I pre W → W.heap[B]? = some (ob x) → w.heap.size ≤ B → pre.length < N →
      body.wpIn (Fence.wide.inRound l) (n - 1 - 1) Tryz.prog (fun e _ W' => e = .normal ∧ KeepsOthers W W' ∧ Below n₀ W W' ∧ I (pre ++ [x]) W') (a₁ x B) W)
    (hdone : ∀ (D : Nat) (xs : List α) (W : World), w.heap.size ≤ D → S xs → I xs W → W.heap[D]? = some (.deferred (some [])) → Q .normal { a with defers := { target := .collected D, args := #[] } :: a.defers } W) :
    (Code.rangeFunc g ps assign body).wpIn Fence.wide n Tryz.prog Q a w := by
  refine wpIn_rangeFunc ?_
  intro fn hfn
  obtain ⟨lp, hlp⟩ : ∃ lp : LoopState → Loop, lp = fun st => { state := st, pending := none, fn, tmps := a.tmps, params := ps, assign, body, defers := w.heap.size } := ⟨_, rfl⟩
  obtain ⟨W1, hW1⟩ : ∃ W1, (w.alloc (.deferred (some []))).alloc (.loop (lp .ready)) = W1 := ⟨_, rfl⟩
  have hsz : W1.heap.size = w.heap.size + 2 := by rw [← hW1]; simp
  have hloop : W1.heap[w.heap.size + 1]? = some (.loop (lp .ready)) := by
    rw [← hW1]
    have := World.alloc_heap_new (w.alloc (.deferred (some []))) (.loop (lp .ready))
    rwa [World.size_alloc] at this
  have hdef : W1.heap[w.heap.size]? = some (.deferred (some [])) := by
    rw [← hW1]
    exact (Below.heap_alloc _ _ _ (by simp)).trans (World.alloc_heap_new w _)
  have hI1 : I [] W1 := by rw [← hW1]; exact hI.alloc _ (hI.alloc _ h0)
  have hb1 : Below w0.heap.size w0 W1 := by
    rw [← hW1]
    exact (hb0.alloc hb0.size _).alloc (by have := hb0.size; simp; omega) _
  have far : ∀ (W : World) (o' : Obj), n₀ ≤ W.heap.size → Below n₀ W (W.putObj (w.heap.size + 1) o') := fun W o' h => (Below.refl n₀ W).grown (grownBy_putObj' W _ o') h (fun k e => by cases e; omega)
  refine ⟨w.heap.size + 1, [{ target := .collected w.heap.size, args := #[] }], W1, { target := .fn (.func gf) lb, args := #[.func (.yield (w.heap.size + 1)) #[] #[]] }, W1, gf,
    #[.func (.yield (w.heap.size + 1)) #[] #[]] ++ lb, W1, ?_, ?_, ?_, ?_, fun _ => h1, ?_⟩
  · rw [← hW1, hlp]; exact run_enterLoop_outer _ _ _ _ _
  · simp only [resolve, hg]
    simp [go_sem]
  · intro f' hf'; exact trivial
  · simp [invoke, go_sem, eg]
  · refine (hseq (w.heap.size + 1) (fun pre W => I pre W ∧ W.heap[w.heap.size + 1]? = some (.loop (lp .ready)) ∧ W.heap[w.heap.size]? = some (.deferred (some []))) (fun _ _ => False) W1 hb1 ?_ (fun s A B row hs _ _ => hs) ?_ ⟨hI1, hloop, hdef⟩).mono ?_
    · rintro s A B row ⟨q1, q2, q3⟩ hg' hr
      refine ⟨hI s A B row q1 hg' fun r e => ?_, (grownBy_keeps hg' (fun r e => (hr r e).2) q2 rfl).trans q2, (grownBy_keeps hg' (fun r e => (hr r e).2) q3 rfl).trans q3⟩
      obtain ⟨q4, o, ho, hw⟩ := hr r e
      exact ⟨by omega, o, ho, Obj.not_cells_of_walk hw⟩
    · rintro pre x W ⟨hi, hl, hk⟩ hlen
      have hlt : w.heap.size + 1 < W.heap.size := (Array.getElem?_eq_some_iff.1 hl).1
      have hy := run_yield (P := Tryz.prog) (args := encs x) hl (by rw [hlp]; exact hps x)
      rw [hlp] at hy
      have hl' : (W.alloc (ob x)).heap[w.heap.size + 1]? = some (.loop (lp .ready)) := (Below.heap_alloc _ _ _ hlt).trans hl
      have hk' : (W.alloc (ob x)).heap[w.heap.size]? = some (.deferred (some [])) := (Below.heap_alloc _ _ _ (by omega)).trans hk
      have hx' : (W.alloc (ob x)).heap[W.heap.size]? = some (ob x) := World.alloc_heap_new W _
      have hi' : I pre (W.alloc (ob x)) := hI.alloc _ hi
      have hB' : Below n₀ W (W.alloc (ob x)) := (Below.refl _ W).alloc (by omega) _
      refine ⟨fn, _, assign, body, hy, roundIn_of_wpIn hfn (hassign _ x W _ ⟨_, run_beginRound hl' (by rw [hlp]), ?_⟩)⟩
      generalize W.alloc (ob x) = W2 at *
      have hlt2 : w.heap.size + 1 < W2.heap.size := (Array.getElem?_eq_some_iff.1 hl').1
      obtain ⟨W3, hW3⟩ : ∃ W3, W2.putObj (w.heap.size + 1) (.loop { lp .ready with state := .busy }) = W3 := ⟨_, rfl⟩
      have hl3 : W3.heap[w.heap.size + 1]? = some (.loop { lp .ready with state := .busy }) := by rw [← hW3]; exact World.putObj_heap_same hlt2
      have hk3 : W3.heap[w.heap.size]? = some (.deferred (some [])) := by rw [← hW3]; exact (World.putObj_heap_other (by omega)).trans hk'
      have hx3 : W3.heap[W.heap.size]? = some (ob x) := by rw [← hW3]; exact (World.putObj_heap_other (by omega)).trans hx'
      have hi3 : I pre W3 := by rw [← hW3]; exact hI.putObj _ hi' (by omega) hl' rfl
      have hB3 : Below n₀ W W3 := by rw [← hW3]; exact hB'.trans (far _ _ (by omega))
      rw [hW3]
      refine wpIn_mono (hbody _ pre x _ W3 hi3 hx3 (by omega) hlen) ?_
      rintro e a3 W4 ⟨rfl, hkp, hB4, hi4⟩
      have hl4 := hkp.same _ _ hl3 rfl
      have hk4 := hkp.same _ _ hk3 rfl
      have hr := run_endRound (P := Tryz.prog) none hl4
      refine ⟨_, _, hr, .inl ⟨rfl, ⟨hI.putObj _ hi4 (by omega) hl4 rfl, ?_, ?_⟩, hB3.trans (hB4.trans (far _ _ (by have := (Array.getElem?_eq_some_iff.1 hl4).1; omega)))⟩⟩
      · refine (World.putObj_heap_same (Array.getElem?_eq_some_iff.1 hl4).1).trans ?_
        rw [hlp]
        rfl
      · exact (World.putObj_heap_other (by omega)).trans hk4
    · rintro e W2 ⟨⟨v, rfl⟩, (⟨xs, hS, hi, hl, hk⟩ | ⟨pre, hSp, hf⟩)⟩
      · exact ⟨none, _, by have := run_endLoop (P := Tryz.prog) hl (by rw [hlp]; simp); rw [hlp] at this; exact this, hdone _ xs _ (Nat.le_refl _) hS (hI.putObj _ hi (by omega) hl rfl) ((World.putObj_heap_other (by omega)).trans hk)⟩
      · exact hf.elim
set_option maxRecDepth 100000 in
set_option maxHeartbeats 2000000 in
theorem aseq_in (n : Nat) (hn : 3 ≤ n) (Bs : Nat) (oa : Option Addr) (m cap : Nat) (ds : List L2) (hm : m ≤ 70) (w : World) (hBs : Bs < w.heap.size) (hc : w.cell? ⟨Bs, 0, none⟩ = some (.slice oa m cap)) (hD : Ls w oa m cap ds) :
    CallsIn Fence.wide n Tryz.prog 100 #[.slice none 0 0, .func (.func 88) #[] #[.pointer (some ⟨Bs, 0, none⟩)]] w fun e w' => (∃ v, e = .returned v ∧ w'.ownsRow w.heap.size 52 2 v m (cellsL ds)) ∧ Below w.heap.size w w' := by
  have hl := hD.len
  obtain ⟨i0, hi, hz0, hz1, hz2⟩ := info_parts infoLab
  refine callsIn_of_wp_marks Tryz.func100 rfl trivial ?_ rfl
  simp only [Tryz.ntmps100, List.size_toArray, List.length_cons, List.length_nil, Nat.reduceAdd, Nat.reduceSub, Array.replicate_succ, Array.replicate_zero, List.push_toArray, List.append_toArray, List.nil_append, List.cons_append]
  gi_wp2
  have bO := Boxed.new w 22 (.slice none 0 0)
  have hB0 : Below w.heap.size w (w.alloc (.cells #[.slice none 0 0] 22)) := (Below.refl _ w).alloc (Nat.le_refl _) _
  refine range_boxed (n := n) (n₀ := w.heap.size) (w0 := w) (by omega) (gf := 88) (lb := #[.pointer (some ⟨Bs, 0, none⟩)]) rfl (enters_of Tryz.func88 (by kernel_rfl) rfl)
    (vals_stops (n - 1) (by omega) Bs oa m cap ds hm w hBs hc hD) (by simp) hB0 (fun _ => rfl)
    (fun pre W => (∃ v, Boxed W w.heap.size 22 v ∧ W.ownsRow w.heap.size 52 2 v pre.length (cellsL pre) ∧ True) ∧ Below w.heap.size w W)
    (OwnFrom.and (Own.from (holdsRow_own w.heap.size w.heap.size 22 52 2 (fun pre : List L2 => pre.length) (fun pre => cellsL pre) (fun pre v => True)) _) (ownFrom_below (Nat.le_refl _) (by simp)))
    ⟨⟨_, bO, World.ownsRow_nil _ _ _ _, trivial⟩, hB0⟩
    (fun x => .cells #[.string x.1, .string x.2] 52) (fun _ => rfl)
    (fun x B => { tmps := #[.slice none 0 0, .func (.func 88) #[] #[.pointer (some ⟨Bs, 0, none⟩)], .pointer (some ⟨w.heap.size, 0, none⟩), undef, .slice none 0 0, .pointer (some ⟨B, 0, none⟩), .func (.func 88) #[] #[.pointer (some ⟨Bs, 0, none⟩)], .agg #[.string x.1, .string x.2], undef, undef, undef, undef, undef], defers := [] }) ?assign ?body ?done
  case assign =>
    intro l x W K hK
    gi_wp2
    exact hK
  case body =>
    rintro l pre ⟨a, i⟩ B W ⟨⟨v, hv, hrow, _⟩, hB⟩ hx hB2 hlt
    have hc := hv.cell
    have c0 : W.cell? ⟨B, 0, none⟩ = some (.string a) := by simp [World.cell?, hx]
    have c1 : W.cell? ⟨B, 1, none⟩ = some (.string i) := by simp [World.cell?, hx]
    have hs := hB.size
    clear hx
    gi_wp2_with (gi_at_builtin; refine wpListIn_append_own _ rfl _ _ 22 rfl w.heap.size 52 i0 _ 2 32 Tryz.underlying22 hi hz0 hz1 hz2 rfl (by decide) _ _ _ rfl (hrow.alloc _) ⟨W.heap.size, 0, none⟩ 1 1 [.string a, .string i] rfl rfl (two_new _ _ _ _) (cellsL_one [(a, i)]) (by unfold maxLen; omega) (by omega) (by have := hB.size; simp; omega) ?_; intro v' w1 hown' hgrow _; obtain ⟨g', cap', rfl⟩ := ownsRow_succ hown'; obtain ⟨hv1, hv2, hr2, hk2, hb2⟩ := hv.appended (by decide) hrow hB.size (Nat.le_refl _) hown' hgrow; have hc1 := hv1.cell; have hf1 := hv1.frozen)
    refine ⟨⟨_, hv2, ?_⟩, hB.trans hb2⟩
    rw [cellsL_snoc]
    exact hr2
  case done =>
    rintro D ys W hDD rfl ⟨⟨v, hv, hrow, hnil⟩, hB⟩ hK
    have hc := hv.cell
    gi_wp2
    refine ⟨by simp, .inl ⟨_, _, rfl, run_takeDeferred hK, ?_⟩⟩
    exact ⟨_, results_tmp rfl _ _ _, ⟨v, rfl, by rw [← hl]; exact ownsRow_putObj hrow _ hK rfl⟩, hB.trans (belowK_b (w := w) (Nat.le_refl _) W D _ _ (by rw [World.size_alloc] at hDD; omega) hK rfl rfl)⟩
set_option maxHeartbeats 800000 in
theorem values_any (oa : Option Addr) (m cap : Nat) (w : World) :
    Calls Tryz.prog 71 #[.slice oa m cap] w fun e w' => e = .returned (.func (.func 88) #[] #[.pointer (some ⟨w.heap.size, 0, none⟩)]) ∧ w' = w.alloc (.cells #[.slice oa m cap] 22) := by
  go_enter Tryz.func71, Tryz.ntmps71
  go_wp2_with fail
  go_ret
  exact ⟨rfl, rfl⟩
set_option maxHeartbeats 800000 in
theorem collect_any (Bs : Nat) (oa : Option Addr) (m cap : Nat) (ds : List L2) (hm : m ≤ 70) (w : World) (hBs : Bs < w.heap.size) (hc : w.cell? ⟨Bs, 0, none⟩ = some (.slice oa m cap)) (hD : Ls w oa m cap ds) :
    Calls Tryz.prog 86 #[.func (.func 88) #[] #[.pointer (some ⟨Bs, 0, none⟩)]] w fun e w' => (∃ v, e = .returned v ∧ w'.ownsRow w.heap.size 52 2 v m (cellsL ds)) ∧ Below w.heap.size w w' := by
  have h := callsIn_wide.1 (aseq_in 3 (by omega) Bs oa m cap ds hm w hBs hc hD)
  go_enter Tryz.func86, Tryz.ntmps86
  go_wp2_with fail
  refine h.mono ?_
  rintro e w' ⟨⟨v, rfl, hv⟩, B⟩
  go_wp2_with fail
  go_ret
  exact ⟨⟨v, rfl, hv⟩, B⟩
end Go.Proofs.YthncfcjkpcjkiaaGreatDoor
