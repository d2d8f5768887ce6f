/-
  Rows of labels copied (slices.Clone); maps by numbers, made at once; how duties of each State go on, and which States there are (package duty).
  How duties go on: which States there are, a duty turned to a time, and the four ways on (package duty).
  The four ways on of duties, and whose turn it is (package duty).
  A duty that is told anew, and whose turn it is (package duty).
-/
import Derived.Test.YtaiacohnhhicpaaDutA
import Derived.OwnWalk
import Derived.Maps.AppendAt
import Derived.Lib.SliceRun
import Derived.Deep.AppendLies
import Derived.MapKept
import Derived.WideMake
import Derived.ChangeMaps5
import Derived.Test.YtaiacohnhhicpaaLawA
import Derived.Deep.RegionHeld3
import Derived.Deep.QuietTactic
import Derived.Test.YtaiacohnhhicpaaDutN
import Derived.Test.YtaiacohnhhicpaaRotF
namespace Go.Proofs.Ytaiacohnhhicpaa
open Go.RowKit Go.Shelf
set_option linter.unusedVariables false
set_option linter.unusedSimpArgs false

/-- labels as cells, one behind the other -/
def cellsL (l : List L2) : List Value := l.flatMap fun x => [.string x.1, .string x.2]
theorem cellsL_length (l : List L2) : (cellsL l).length = l.length * 2 := by
  induction l with
  | nil => rfl
  | cons x l ih => simp only [cellsL, List.flatMap_cons, List.length_append, List.length_cons, List.length_nil] at *; omega
theorem cellsL_snoc (l : List L2) (x : L2) : cellsL (l ++ [x]) = cellsL l ++ [.string x.1, .string x.2] := by unfold cellsL; simp
theorem cellsL_append (l m : List L2) : cellsL (l ++ m) = cellsL l ++ cellsL m := by unfold cellsL; simp
theorem cellsL_one (l : List L2) : ∀ u ∈ cellsL l, u.oneCell' = true := by
  intro u hu
  unfold cellsL at hu
  simp at hu
  obtain ⟨a, b, _, rfl | rfl⟩ := hu <;> rfl
theorem cellsL_at (l : List L2) : ∀ i, i < l.length → (cellsL l)[i * 2]? = some (.string (l.getD i zL).1) ∧ (cellsL l)[i * 2 + 1]? = some (.string (l.getD i zL).2) := by
  induction l with
  | nil => intro i hi; simp at hi
  | cons x l ih =>
    intro i hi
    have e : cellsL (x :: l) = .string x.1 :: .string x.2 :: cellsL l := rfl
    rw [e]
    cases i with
    | zero => exact ⟨rfl, rfl⟩
    | succ i =>
      have := ih i (by simpa using hi)
      rw [show (i + 1) * 2 = i * 2 + 1 + 1 from by omega]
      simpa using this
theorem infoLab : (Try.prog.info? 61).map (fun i => (i.zero, i.size, i.bytes)) = some (some (.agg #[.string ByteArray.empty, .string ByteArray.empty]), 2, 32) := by kernel_rfl
theorem two_new (w : World) (x y : Value) (t : TypeId) : ∀ j u, [x, y][j]? = some u → (w.alloc (.cells #[x, y] t)).cell? ((⟨w.heap.size, 0, none⟩ : Addr).add j) = some u := by
  intro j u hj
  match j, hj with
  | 0, hj => simp at hj; subst hj; exact World.cell?_alloc_at _ _ _ _ rfl
  | 1, hj => simp at hj; subst hj; exact World.cell?_alloc_at _ _ _ _ rfl
theorem Ls.of_own {w : World} {base : Nat} {v : Value} {n : Nat} {xs : List L2} (hl : xs.length = n) (h : w.ownsRow base 61 2 v n (cellsL xs)) :
    ∃ oa cap, v = .slice oa n cap ∧ Ls w oa n cap xs ∧ cap ≤ maxLen := by
  rcases h.2 with ⟨rfl, rfl⟩ | ⟨g, cap, cur, rfl, hb, hg, hnc, hm, hcs, htk⟩
  · exact ⟨none, 0, rfl, ⟨hl, Nat.le_refl _, fun i hi => absurd hi (by omega)⟩, by unfold maxLen; omega⟩
  · refine ⟨_, cap, rfl, ⟨hl, hnc, fun i hi => ⟨g, 0, rfl, ?_, ?_⟩⟩, hm⟩
    · have := (cellsL_at xs i (by omega)).1
      rw [← htk, List.getElem?_take, if_pos (by omega)] at this
      simpa [World.cell?, hg] using this
    · have := (cellsL_at xs i (by omega)).2
      rw [← htk, List.getElem?_take, if_pos (by omega)] at this
      simpa [World.cell?, hg] using this
theorem frozenL {w : World} {base : Nat} {cap : Nat} {n : Nat} {e : TypeId} {xs : List Value} {oa : Option Addr} (h : w.ownsRow base e 2 (.slice oa n cap) n xs) (hn : 0 < n) : ∃ g, oa = some ⟨g, 0, none⟩ ∧ base ≤ g ∧ g < w.heap.size ∧ ∀ o, w.frozen? ⟨g, o, none⟩ = false := by
  rcases h.2 with ⟨h1, h2⟩ | ⟨g, cap, cur, h1, hb, hg, hnc, hm, hcs, htk⟩
  · omega
  · injection h1 with h3
    subst h3
    exact ⟨g, rfl, hb, (Array.getElem?_eq_some_iff.1 hg).1, fun o => by simp [World.frozen?, hg]⟩
theorem append_none (w : World) (ty : TypeId) (i : TypeInfo) (hi : Try.prog.info? 61 = some i) (oa : Option Addr) (n cap c : Nat) (h : n ≤ cap) (hnil : oa = none → n = 0 ∧ cap = 0) :
    (Builtin.append_ #[22, 22] ty #[.slice oa n cap, .slice none 0 c]).run Try.prog w = .ok (.slice oa n cap) w := by
  cases oa with
  | none =>
    obtain ⟨rfl, rfl⟩ := hnil rfl
    simp [Builtin.append_, run_underlying Try.underlying22, sizeOf, typeInfo, hi, Builtin.lenOf, Builtin.firstCells]
  | some ad => simp [Builtin.append_, run_underlying Try.underlying22, sizeOf, typeInfo, hi, Builtin.lenOf, Builtin.firstCells, h, storeCells]
theorem ls_news {w : World} {ad : Addr} {n cap : Nat} {l : List L2} (h : Ls w (some ad) n cap l) : ∀ j u, (cellsL l)[j]? = some u → w.cell? (ad.add j) = some u := by
  intro j u hj
  have hlt : j < l.length * 2 := by
    have := (List.getElem?_eq_some_iff.1 hj).1
    rwa [cellsL_length] at this
  have hl := h.len
  obtain ⟨g, o, e, h1, h2⟩ := h.cell (j / 2) (by omega)
  cases e
  obtain ⟨q1, q2⟩ := cellsL_at l (j / 2) (by omega)
  rw [Addr.add_lit]
  rcases Nat.mod_two_eq_zero_or_one j with h0 | h0
  · rw [show j / 2 * 2 = j from by omega] at q1 h1
    rw [h1, ← q1, hj]
  · rw [show j / 2 * 2 + 1 = j from by omega] at q2
    rw [show o + j / 2 * 2 + 1 = o + j from by omega] at h2
    rw [h2, ← q2, hj]
theorem wp_append_ls (w : World) {o : Oper} {a : Act} {K : Act → World → Prop} {Q : Exit → Act → World → Prop} (s x : Operand)
    (ho : o.op = .call { callee := .builtin .append, args := #[s, x], argTypes := #[22, 22] }) (base : Nat) {v : Value} {n : Nat} {xs : List Value} (hs : a.eval s = v)
    (hown : w.ownsRow base 61 2 v n xs) {ox : Option Addr} {m c : Nat} {ds : List L2} (hx : a.eval x = .slice ox m c) (hD : Ls w ox m c ds) (hn : n + m ≤ 1000) (hbase : base ≤ w.heap.size)
    (h : ∀ v' w', w'.ownsRow base 61 2 v' (n + m) (xs ++ cellsL ds) → w.grownBy w' v.ownBlock → K (a.put o.dst v') w') : o.wp Try.prog a w K Q := by
  obtain ⟨i0, hi, hz0, hz1, hz2⟩ := info_parts infoLab
  cases ox with
  | none =>
    have hm0 : m = 0 := by
      rcases Nat.eq_zero_or_pos m with h0 | h0
      · exact h0
      · obtain ⟨g, o, e, _⟩ := hD.cell 0 h0
        cases e
    subst hm0
    have hds : ds = [] := List.eq_nil_of_length_eq_zero hD.len
    subst hds
    have hk := h v w (by simpa [cellsL] using hown) (World.grownBy.refl w _)
    rcases hown.2 with ⟨rfl, rfl⟩ | ⟨g, cap, cur, rfl, hb, hg, hnc, _⟩
    · have hrun := append_none w o.type i0 hi none 0 0 c (Nat.le_refl _) (fun _ => ⟨rfl, rfl⟩)
      unfold Oper.wp
      simp [execOp, ho, resolve, invoke, builtin, hs, hx, hrun, Result.andThen]
      exact hk
    · have hrun := append_none w o.type i0 hi (some ⟨g, 0, none⟩) n cap c hnc (fun e => by cases e)
      unfold Oper.wp
      simp [execOp, ho, resolve, invoke, builtin, hs, hx, hrun, Result.andThen]
      exact hk
  | some ad =>
    exact wp_append_own w s x 22 ho base 61 i0 _ 2 32 Try.underlying22 hi hz0 hz1 hz2 rfl (by decide) v n xs hs hown ad m c (cellsL ds) hx (by rw [cellsL_length, hD.len]) (ls_news hD) (cellsL_one ds) (by unfold maxLen; omega) (by omega) hbase (fun v' w' h1 h2 _ => h v' w' h1 h2)
theorem wpList_append_ls (w : World) {ops : Array Oper} {rest : List Oper} {o : Oper} {a : Act} {Q : Exit → Act → World → Prop} (hw : Region.wanted o (yielded ops a.tmps) = true) (s x : Operand)
    (ho : o.op = .call { callee := .builtin .append, args := #[s, x], argTypes := #[22, 22] }) (base : Nat) {v : Value} {n : Nat} {xs : List Value} (hs : a.eval s = v)
    (hown : w.ownsRow base 61 2 v n xs) {ox : Option Addr} {m c : Nat} {ds : List L2} (hx : a.eval x = .slice ox m c) (hD : Ls w ox m c ds) (hn : n + m ≤ 1000) (hbase : base ≤ w.heap.size)
    (h : ∀ v' w', w'.ownsRow base 61 2 v' (n + m) (xs ++ cellsL ds) → w.grownBy w' v.ownBlock → wpList Try.prog ops Q rest (a.put o.dst v') w') : wpList Try.prog ops Q (o :: rest) a w := by
  refine wpList_step fun K hK => ?_
  rw [if_pos hw]
  exact wp_append_ls w s x ho base hs hown hx hD hn hbase (fun v' w' h1 h2 => hK _ _ (h v' w' h1 h2))
set_option maxRecDepth 100000 in
set_option maxHeartbeats 1600000 in
theorem cloneL_any (oa : Option Addr) (n cap : Nat) (l : List L2) (w : World) (h : Ls w oa n cap l) (hn : n ≤ 1000) :
    Calls Try.prog 41 #[.slice oa n cap] w fun e w' => (∃ ob cp, e = .returned (.slice ob n cp) ∧ Ls w' ob n cp l) ∧ Below w.heap.size w w' := by
  have q := fun (w : World) (a : Option Addr) (n c n' c' : Nat) => Lib.run_eql_slice_nil (P := Try.prog) w 22 61 a n c n' c' Try.underlying22
  cases oa with
  | none =>
    have hn0 : n = 0 := by
      rcases Nat.eq_zero_or_pos n with h0 | h0
      · exact h0
      · obtain ⟨g, o, e, _⟩ := h.cell 0 h0
        cases e
    subst hn0
    have hl : l = [] := List.eq_nil_of_length_eq_zero h.len
    subst hl
    clear h
    go_enter Try.func41, Try.ntmps41
    go_wp2_with fail
    go_ret
    exact ⟨⟨none, 0, rfl, Ls.nil _ _ _⟩, Below.refl _ _⟩
  | some ad =>
    have B0 := below_alloc w (.cells #[] 61)
    have hH := h.below B0 (Nat.le_refl _)
    have hlen := h.len
    have own0 : (w.alloc (.cells #[] 61)).ownsRow w.heap.size 61 2 (.slice (some ⟨w.heap.size, 0, none⟩) 0 0) 0 (cellsL []) := World.ownsRow_made w #[] 0 (Nat.le_refl _) (Nat.zero_le _) rfl
    clear h
    go_enter Try.func41, Try.ntmps41
    go_wp2_with (first | (at_builtin; refine wpList_append_ls _ rfl (.tmp 5) (.tmp 6) rfl w.heap.size rfl own0 rfl hH (by omega) B0.size ?_; intro v1 w1 own1 hg1; have B8 : Below w.heap.size w w1 := B0.grown hg1 B0.size (fun r e => (own0.lt r e).1)))
    rw [Nat.zero_add] at own1
    have own2 : w1.ownsRow w.heap.size 61 2 v1 n (cellsL l) := own1
    obtain ⟨ob, cp, rfl, hO, _⟩ := Ls.of_own hlen own2
    clear own1 own0 hg1 hH q own2
    go_wp2_with fail
    go_ret
    exact ⟨⟨ob, cp, rfl, hO⟩, B8⟩

/-- a map by numbers in block b, of these in turn -/
def Mi (w : World) (b : Nat) (es : List (Int × Value)) : Prop := ∃ arr clock, w.heap[b]? = some (.map arr clock) ∧ arr.toList.map (fun e : MapEntry => (e.key, e.val)) = es.map fun p => (Value.int .i64 p.1, p.2)
def getI (es : List (Int × Value)) (s : Int) : Option Value := (es.find? fun p => decide (s = p.1)).map (·.2)
theorem findNow_mi (s : Int) : ∀ (l : List MapEntry) (es : List (Int × Value)) (i : Nat), l.map (fun e : MapEntry => (e.key, e.val)) = es.map (fun p => (Value.int .i64 p.1, p.2)) → ∃ r, Instr.findNow (.int .i64) (.int .i64 s) l i = some r ∧ r.map (·.2) = getI es s
  | [], [], i, _ => ⟨none, rfl, rfl⟩
  | [], p :: es, i, h => by simp at h
  | e :: l, [], i, h => by simp at h
  | e :: l, p :: es, i, h => by
    simp only [List.map_cons, List.cons.injEq, Prod.mk.injEq] at h
    obtain ⟨⟨h1, h2⟩, h3⟩ := h
    rw [Instr.findNow, h1]
    simp only [Instr.sameNow, if_true]
    by_cases hq : s = p.1
    · have hb : (s == p.1) = true := by simp [hq]
      rw [hb]
      exact ⟨_, rfl, by simp [getI, hq, h2]⟩
    · have hb : (s == p.1) = false := by simp [hq]
      rw [hb]
      obtain ⟨r, h4, h5⟩ := findNow_mi s l es (i + 1) h3
      refine ⟨r, h4, ?_⟩
      rw [h5]
      simp [getI, hq]
theorem Mi.look {w : World} {b : Nat} {es : List (Int × Value)} (h : Mi w b es) {t kt et : TypeId} (hm : Try.prog.underlying t = some (.map kt et)) (hk : Try.prog.underlying kt = some (.int .i64)) (s : Int) {z : Value} (hz : (zeroValue et).run Try.prog w = .ok z w) :
    (Instr.lookup t (.map (some b)) (.int .i64 s) false).run Try.prog w = .ok ((getI es s).getD z) w ∧ (Instr.lookup t (.map (some b)) (.int .i64 s) true).run Try.prog w = .ok (.tuple #[(getI es s).getD z, .bool (getI es s).isSome]) w := by
  obtain ⟨arr, clock, hb, hl⟩ := h
  obtain ⟨r, hf, hr⟩ := findNow_mi s arr.toList es 0 hl
  have hc : ∀ e, (Instr.checkKey e 10000 kt (.int .i64 s)).run Try.prog w = .ok () w := fun e => MapKept.run_checkKey (k := .int .i64 s) hk (by simp [MapKept.IsKey]) e 9999
  have hfk := MapKept.run_findKey (P := Try.prog) (w := w) hk hf
  rw [← hr]
  cases r with
  | none =>
    constructor <;> simp [Instr.lookup, run_underlying hm, MapKept.run_getObj_map hb, hc, hfk, hz, Result.andThen]
  | some q =>
    obtain ⟨i, v⟩ := q
    constructor <;> simp [Instr.lookup, run_underlying hm, MapKept.run_getObj_map hb, hc, hfk, Result.andThen]
/-- all but block b is as it was -/
structure Oth (b : Nat) (w w' : World) : Prop where
  os : w'.os = w.os
  tape : w'.tape = w.tape
  output : w'.output = w.output
  size : w'.heap.size = w.heap.size
  block : ∀ k, k ≠ b → w'.heap[k]? = w.heap[k]?
theorem below_oth {C b : Nat} {a w w' : World} (h : Below C a w) (ho : Oth b w w') (hb : C ≤ b) : Below C a w' :=
  ⟨ho.os.trans h.os, ho.tape.trans h.tape, ho.output.trans h.output, by rw [ho.size]; exact h.size, fun k hk => (ho.block k (by omega)).trans (h.block k hk)⟩
theorem Mi.new (w : World) : Mi (w.alloc (Obj.map #[] 0)) w.heap.size [] := ⟨#[], 0, heap_alloc_new w _, rfl⟩
theorem Mi.lt {w : World} {c : Nat} {es : List (Int × Value)} (h : Mi w c es) : c < w.heap.size := by
  obtain ⟨arr, clock, h1, h2⟩ := h
  exact (Array.getElem?_eq_some_iff.1 h1).1
theorem Mi.put {w : World} {b : Nat} {es : List (Int × Value)} (h : Mi w b es) {t kt et : TypeId} (hm : Try.prog.underlying t = some (.map kt et)) (hk : Try.prog.underlying kt = some (.int .i64)) (k : Int) (v : Value) (hn : getI es k = none) :
    ∃ w', (Instr.mapUpdate t (.map (some b)) (.int .i64 k) v).run Try.prog w = .ok () w' ∧ Mi w' b (es ++ [(k, v)]) ∧ Oth b w w' := by
  obtain ⟨arr, clock, hb, hl⟩ := h
  obtain ⟨r, hf, hr⟩ := findNow_mi k arr.toList es 0 hl
  have hr0 : r = none := by
    cases r with
    | none => rfl
    | some q => rw [hn] at hr; simp at hr
  subst hr0
  have hc : (Instr.checkKey false 10000 kt (.int .i64 k)).run Try.prog w = .ok () w := MapKept.run_checkKey (k := .int .i64 k) hk (by simp [MapKept.IsKey]) false 9999
  have hfk := MapKept.run_findKey (P := Try.prog) (w := w) hk hf
  have hset := MapKept.heap_set (o' := .map (arr.push { key := .int .i64 k, val := v, born := clock }) (clock + 1)) hb
  refine ⟨{ w with heap := w.heap.setIfInBounds b (.map (arr.push { key := .int .i64 k, val := v, born := clock }) (clock + 1)) }, by simp [Instr.mapUpdate, run_underlying hm, MapKept.run_getObj_map hb, hc, hfk, MapKept.run_setObj_map _ hb, Result.andThen], ⟨_, _, hset.1, ?_⟩, rfl, rfl, rfl, ?_, hset.2⟩
  · simp [hl]
  · simp
theorem wpList_insert_mi (w : World) {ops : Array Oper} {rest : List Oper} {o : Oper} {a : Act} {Q : Exit → Act → World → Prop}
    (hg : o.guard = none) (m x v : Operand) (t kt et : TypeId) (hop : o.op = Op.insert t m x v) (ht : Try.prog.underlying t = some (.map kt et)) (hk : Try.prog.underlying kt = some (.int .i64)) (b : Nat) (hm : a.eval m = .map (some b)) {es : List (Int × Value)} (hM : Mi w b es)
    (k : Int) (hx : a.eval x = .int .i64 k) {val : Value} (hv : a.eval v = val) (hn : getI es k = none) (hK : ∀ w', Mi w' b (es ++ [(k, val)]) → Oth b w w' → wpList Try.prog ops Q rest (a.put o.dst undef) w') :
    wpList Try.prog ops Q (o :: rest) a w := by
  refine wpList_plain hg fun K' hK' => ?_
  obtain ⟨w', hrun, r1, r2⟩ := hM.put ht hk k val hn
  unfold Oper.wp
  simp [execOp, hop, hm, hx, hv, hrun, Result.andThen]
  exact hK' _ _ (hK w' r1 r2)

/-- the four ways on, as values -/
abbrev fRep : Value := .func (.func 50) #[] #[]
abbrev fGone : Value := .func (.func 51) #[] #[]
abbrev fToEnd : Value := .func (.func 52) #[] #[]
abbrev fEnded : Value := .func (.func 53) #[] #[]
def waysL : List (Int × Value) := [(1, .agg #[fRep, fGone]), (2, .agg #[fRep, fToEnd]), (3, .agg #[fGone, fEnded])]
set_option maxRecDepth 100000 in
set_option maxHeartbeats 3200000 in
theorem states_any (w : World) :
    Calls Try.prog 36 #[] w fun e w' => e = .returned (.map (some w.heap.size)) ∧ Mi w' w.heap.size waysL ∧ Below w.heap.size w w' := by
  have hmm := @run_makeMap Try.prog
  have B1 := below_alloc w (Obj.map #[] 0)
  have f1 := Mi.new w
  have hUM : Try.prog.underlying 79 = some (.map 3 78) := Try.underlying79
  have hUI : Try.prog.underlying 3 = some (.int .i64) := Try.underlying3
  go_enter Try.func36, Try.ntmps36
  go_wp2_with (first
    | (refine wpList_insert_mi _ ?_ (.tmp 1) (.const (.int .i64 1)) (.tmp 2) _ _ _ ?_ hUM hUI w.heap.size ?_ f1 1 ?_ (val := .agg #[fRep, fGone]) ?_ ?_ ?_; rfl; rfl; rfl; rfl; rfl; rfl; intro w2 f2 o2; change Mi w2 w.heap.size [(1, .agg #[fRep, fGone])] at f2; have B2 := below_oth B1 o2 (Nat.le_refl _))
    | (refine wpList_insert_mi _ ?_ (.tmp 1) (.const (.int .i64 2)) (.tmp 3) _ _ _ ?_ hUM hUI w.heap.size ?_ f2 2 ?_ (val := .agg #[fRep, fToEnd]) ?_ ?_ ?_; rfl; rfl; rfl; rfl; rfl; rfl; intro w3 f3 o3; change Mi w3 w.heap.size [(1, .agg #[fRep, fGone]), (2, .agg #[fRep, fToEnd])] at f3; have B3 := below_oth B2 o3 (Nat.le_refl _))
    | (refine wpList_insert_mi _ ?_ (.tmp 1) (.const (.int .i64 3)) (.tmp 4) _ _ _ ?_ hUM hUI w.heap.size ?_ f3 3 ?_ (val := .agg #[fGone, fEnded]) ?_ ?_ ?_; rfl; rfl; rfl; rfl; rfl; rfl; intro w4 f4 o4; change Mi w4 w.heap.size waysL at f4; have B4 := below_oth B3 o4 (Nat.le_refl _)))
  go_ret
  exact ⟨rfl, f4, B4⟩
end Go.Proofs.Ytaiacohnhhicpaa
namespace Go.Proofs.Ytaiacohnhhicpaa
open Go.RowKit Go.Shelf
set_option linter.unusedVariables false
set_option linter.unusedSimpArgs false

theorem keepD {w w' : World} {a : Addr} {v : Value} (hB : Below w.heap.size w w') (h : w.cell? a = some v) : w'.cell? a = some v := (hB.cell (World.block_lt_of_cell? _ _ h)).trans h
/-- which States there are -/
def stateB (s : Int) : Bool := decide (1 ≤ s) && decide (s ≤ 3)
theorem ways_at (s : Int) : (s = 1 ∧ getI waysL s = some (.agg #[fRep, fGone])) ∨ (s = 2 ∧ getI waysL s = some (.agg #[fRep, fToEnd])) ∨ (s = 3 ∧ getI waysL s = some (.agg #[fGone, fEnded])) ∨ (stateB s = false ∧ getI waysL s = none) := by
  by_cases h1 : s = 1
  · subst h1; exact .inl ⟨rfl, rfl⟩
  · by_cases h2 : s = 2
    · subst h2; exact .inr (.inl ⟨rfl, rfl⟩)
    · by_cases h3 : s = 3
      · subst h3; exact .inr (.inr (.inl ⟨rfl, rfl⟩))
      · refine .inr (.inr (.inr ⟨?_, ?_⟩))
        · unfold stateB; simp; omega
        · unfold getI waysL; simp [h1, h2, h3]
set_option maxRecDepth 100000 in
set_option maxHeartbeats 1600000 in
theorem isState_any (s : Int) (w : World) :
    Calls Try.prog 31 #[.int .i64 s] w fun e w' => e = .returned (.bool (stateB s)) ∧ Below w.heap.size w w' := by
  have HS := states_any w
  have hUM : Try.prog.underlying 79 = some (.map 3 78) := Try.underlying79
  have hUI : Try.prog.underlying 3 = some (.int .i64) := Try.underlying3
  have L := fun (w1 : World) (hM : Mi w1 w.heap.size waysL) => (hM.look hUM hUI s (Try.zeroValue78 w1)).2
  rcases ways_at s with ⟨rfl, e⟩ | ⟨rfl, e⟩ | ⟨rfl, e⟩ | ⟨hb, e⟩
  all_goals
    simp only [e, Option.getD_some, Option.getD_none, Option.isSome_some, Option.isSome_none] at L
    clear e hUM hUI
    go_enter Try.func31, Try.ntmps31
    go_wp2_with fail
    refine HS.mono ?_
    rintro e w1 ⟨rfl, hM, B1⟩
    have L1 := L w1 hM
    clear L hM HS
    go_wp2_with fail
    go_ret
    first | exact ⟨rfl, B1.alloc B1.size _⟩ | exact ⟨by rw [hb]; rfl, B1.alloc B1.size _⟩
set_option maxRecDepth 100000 in
set_option maxHeartbeats 3200000 in
theorem turned_any (oa : Option Addr) (n cap : Nat) (d : D6) (z due : Int) (w : World) (h : DAt w oa n cap d) :
    Calls Try.prog 28 #[aggD oa n cap d, .int .i64 z, .int .i64 due] w fun e w' => (∃ ob cp, e = .returned (aggD ob n cp { turnD d due with st := z }) ∧ DAt w' ob n cp { turnD d due with st := z }) ∧ Below w.heap.size w w' := by
  obtain ⟨ls, rt, pl, tr, du, st⟩ := d
  dsimp only [turnD, aggD, dV] at *
  have V1 : Vals (w.alloc (.cells #[.slice oa n cap, .int .i64 rt, .int .i64 pl, .int .i64 tr, .int .i64 du, .int .i64 st] 24)) w.heap.size 24 #[.slice oa n cap, .int .i64 rt, .int .i64 pl, .int .i64 tr, .int .i64 du, .int .i64 st] := Vals.new w _ _
  have VA := V1.keep (below_alloc _ (.cells #[.slice none 0 0, .int .i64 0, .int .i64 0, .int .i64 0, .int .i64 0, .int .i64 0] 24)) (Nat.le_refl _)
  have VB := Vals.new (w.alloc (.cells #[.slice oa n cap, .int .i64 rt, .int .i64 pl, .int .i64 tr, .int .i64 du, .int .i64 st] 24)) 24 #[.slice none 0 0, .int .i64 0, .int .i64 0, .int .i64 0, .int .i64 0, .int .i64 0]
  have B1 := below_alloc w (.cells #[.slice oa n cap, .int .i64 rt, .int .i64 pl, .int .i64 tr, .int .i64 du, .int .i64 st] 24)
  have B9 := B1.alloc B1.size (.cells #[.slice none 0 0, .int .i64 0, .int .i64 0, .int .i64 0, .int .i64 0, .int .i64 0] 24)
  have h2 := h.below B9 (Nat.le_refl _)
  have hb := h.b
  have hlen := h.ls.len
  go_enter Try.func28, Try.ntmps28
  go_upto_region 1 with fail
  rw [World.size_alloc] at VB
  generalize hA : w.heap.size = A at *
  have hAw : w.heap.size ≤ A := by omega
  clear V1 B1 h
  generalize (w.alloc (.cells #[.slice oa n cap, .int .i64 rt, .int .i64 pl, .int .i64 tr, .int .i64 du, .int .i64 st] 24)).alloc (.cells #[.slice none 0 0, .int .i64 0, .int .i64 0, .int .i64 0, .int .i64 0, .int .i64 0] 24) = wr at *
  have y0 : wr.cell? ⟨A, 0, none⟩ = some (.slice oa n cap) := VA.cell 0
  have y1 : wr.cell? ⟨A, 1, none⟩ = some (.int .i64 rt) := VA.cell 1
  have HC := cloneL_any oa n cap ls wr.drew (h2.ls.below (Below.refl _ wr).drew (Nat.le_refl _)) (by omega)
  have HVB := Lib.hid VB
  have HAs : Hid (A ≤ wr.drew.heap.size) := by show A ≤ wr.heap.size; have := B9.size; omega
  have HB9 := Lib.hid B9
  clear h2 VA VB B9 hlen hAw
  go_region_with
    (first | (go_at_call 41; refine HC.mono ?_; rintro e w2 ⟨⟨ob, cp, rfl, hO⟩, B2⟩; have x0 := keepD (w := wr.drew) B2 y0; have x1 := keepD (w := wr.drew) B2 y1; have V2 := Vals.keep (w := wr.drew) HVB.out B2 (Nat.le_refl _); have B3 := HB9.out.drew.trans (B2.mono HAs.out); have f0 := V2.free 0; have f1 := V2.free 1; have f2 := V2.free 2; have f3 := V2.free 3; have f4 := V2.free 4; have f5 := V2.free 5; have u0 : w2.cell? ⟨A + 1, 0, none⟩ = some (.slice none 0 0) := V2.cell 0; have u1 : w2.cell? ⟨A + 1, 1, none⟩ = some (.int .i64 0) := V2.cell 1; have u2 : w2.cell? ⟨A + 1, 2, none⟩ = some (.int .i64 0) := V2.cell 2; have u3 : w2.cell? ⟨A + 1, 3, none⟩ = some (.int .i64 0) := V2.cell 3; have u4 : w2.cell? ⟨A + 1, 4, none⟩ = some (.int .i64 0) := V2.cell 4; have u5 : w2.cell? ⟨A + 1, 5, none⟩ = some (.int .i64 0) := V2.cell 5))
  all_goals
    clear u0 u1 u2 u3 u4 u5 x0 x1 y0 y1 HC HVB HAs HB9
    go_wp2_with fail
    refine bodyPost_ret (retD1 (d := ⟨ls, rt, 0, 0, due, z⟩) rfl rfl (V2.six (.slice ob n cp) (.int .i64 rt) (.int .i64 0) (.int .i64 0) (.int .i64 due) (.int .i64 z))) rfl ?_
    exact ⟨⟨ob, cp, rfl, lies_six hO rfl V2 _ _ _ _ _ _ _ _, hb⟩, by rw [hA]; exact below_six B3 (by omega) _ _ _ _ _ _⟩
end Go.Proofs.Ytaiacohnhhicpaa
namespace Go.Proofs.Ytaiacohnhhicpaa
open Go.RowKit Go.Shelf
set_option linter.unusedVariables false
set_option linter.unusedSimpArgs false

theorem retD3 {fn : Func} {p u v : Tmp} (h : fn.results = #[.cell p 24, .tmp u, .tmp v]) {tmps : Array Value} {w : World} {A : Nat} {x z z2 : Value} {d : D6} (hp : tmps.getD p undef = .pointer (some ⟨A, 0, none⟩)) (hu : tmps.getD u undef = z) (hv : tmps.getD v undef = z2)
    (hV : Vals w A 24 (dV x d)) : (results fn tmps).run Try.prog w = .ok (.tuple #[.agg (dV x d), z, z2]) w := by
  rw [results_cell_tmps h, hp, hu, hv]
  simp [Result.andThen, asAddr, run_loadVar_row w A _ 24 _ _ _ hV Try.underlying24 rfl (by kernel_rfl)]
theorem retD2 {fn : Func} {p u : Tmp} (h : fn.results = #[.cell p 24, .tmp u]) {tmps : Array Value} {w : World} {A : Nat} {x z : Value} {d : D6} (hp : tmps.getD p undef = .pointer (some ⟨A, 0, none⟩)) (hu : tmps.getD u undef = z)
    (hV : Vals w A 24 (dV x d)) : (results fn tmps).run Try.prog w = .ok (.tuple #[.agg (dV x d), z]) w := by
  rw [results_cell_tmp h, hp, hu]
  simp [Result.andThen, asAddr, run_loadVar_row w A _ 24 _ _ _ hV Try.underlying24 rfl (by kernel_rfl)]
theorem retR2 {fn : Func} {p u : Tmp} (h : fn.results = #[.cell p 47, .tmp u]) {tmps : Array Value} {w : World} {A : Nat} {z : Value} {r : R9} (hp : tmps.getD p undef = .pointer (some ⟨A, 0, none⟩)) (hu : tmps.getD u undef = z)
    (hV : Vals w A 47 (vR r)) : (results fn tmps).run Try.prog w = .ok (.tuple #[aggR r, z]) w := by
  rw [results_cell_tmp h, hp, hu]
  simp [Result.andThen, asAddr, run_loadVar_row w A _ 47 _ _ _ hV Try.underlying47 rfl (by kernel_rfl)]
/-- three boxes, one behind the other -/
theorem three_boxes (w : World) (T1 T2 T3 : TypeId) (xs ys zs : Array Value) :
    Vals (((w.alloc (.cells xs T1)).alloc (.cells ys T2)).alloc (.cells zs T3)) w.heap.size T1 xs ∧ Vals (((w.alloc (.cells xs T1)).alloc (.cells ys T2)).alloc (.cells zs T3)) (w.heap.size + 1) T2 ys ∧ Vals (((w.alloc (.cells xs T1)).alloc (.cells ys T2)).alloc (.cells zs T3)) (w.heap.size + 1 + 1) T3 zs ∧
    Below w.heap.size w (((w.alloc (.cells xs T1)).alloc (.cells ys T2)).alloc (.cells zs T3)) := by
  have v1 := ((Vals.new w T1 xs).alloc (.cells ys T2)).alloc (.cells zs T3)
  have v2 := (Vals.new (w.alloc (.cells xs T1)) T2 ys).alloc (.cells zs T3)
  have v3 := Vals.new ((w.alloc (.cells xs T1)).alloc (.cells ys T2)) T3 zs
  have b1 := below_alloc w (.cells xs T1)
  have b2 := b1.alloc b1.size (.cells ys T2)
  simp only [World.size_alloc] at v2 v3
  exact ⟨v1, v2, v3, b2.alloc b2.size (.cells zs T3)⟩
abbrev zV : Array Value := #[.slice none 0 0, .int .i64 0, .int .i64 0, .int .i64 0, .int .i64 0, .int .i64 0]

set_option maxRecDepth 100000 in
set_option maxHeartbeats 1600000 in
theorem gone_any (o1 : Option Addr) (n1 c1 : Nat) (o2 : Option Addr) (n2 c2 : Nat) (c : CfgL) (oa : Option Addr) (n cap : Nat) (d : D6) (now : Int) (w : World) :
    Calls Try.prog 51 #[aggC o1 n1 c1 o2 n2 c2 c, aggD oa n cap d, .int .i64 now] w fun e w' => SentOut (zD, true, 0) w' e ∧ Below w.heap.size w w' := by
  unfold SentOut
  obtain ⟨rs, ts, q, t⟩ := c
  obtain ⟨ls, rt, pl, tr, du, st⟩ := d
  dsimp only [aggC, aggD, dV, cfgV] at *
  obtain ⟨_, _, V3, B3⟩ := three_boxes w 33 24 24 #[.slice o1 n1 c1, .slice o2 n2 c2, .int .i64 q, .int .i64 t] #[.slice oa n cap, .int .i64 rt, .int .i64 pl, .int .i64 tr, .int .i64 du, .int .i64 st] zV
  go_enter Try.func51, Try.ntmps51
  go_upto_region 1 with fail
  generalize ((w.alloc _).alloc _).alloc _ = wr at *
  have f0 := V3.free 0; have f1 := V3.free 1; have f2 := V3.free 2; have f3 := V3.free 3; have f4 := V3.free 4; have f5 := V3.free 5
  have u0 : wr.cell? ⟨w.heap.size + 1 + 1, 0, none⟩ = some (.slice none 0 0) := V3.cell 0
  have u1 : wr.cell? ⟨w.heap.size + 1 + 1, 1, none⟩ = some (.int .i64 0) := V3.cell 1
  have u2 : wr.cell? ⟨w.heap.size + 1 + 1, 2, none⟩ = some (.int .i64 0) := V3.cell 2
  have u3 : wr.cell? ⟨w.heap.size + 1 + 1, 3, none⟩ = some (.int .i64 0) := V3.cell 3
  have u4 : wr.cell? ⟨w.heap.size + 1 + 1, 4, none⟩ = some (.int .i64 0) := V3.cell 4
  have u5 : wr.cell? ⟨w.heap.size + 1 + 1, 5, none⟩ = some (.int .i64 0) := V3.cell 5
  have V4 := V3.six (.slice none 0 0) (.int .i64 0) (.int .i64 0) (.int .i64 0) (.int .i64 0) (.int .i64 0)
  go_wp2_with fail
  refine bodyPost_ret (retD3 (d := zD) rfl rfl rfl rfl V4) rfl ?_
  exact ⟨⟨none, 0, 0, rfl, DAt.nil _⟩, below_six B3 (by omega) _ _ _ _ _ _⟩
set_option maxRecDepth 100000 in
set_option maxHeartbeats 1600000 in
theorem ended_any (o1 : Option Addr) (n1 c1 : Nat) (o2 : Option Addr) (n2 c2 : Nat) (c : CfgL) (oa : Option Addr) (n cap : Nat) (d : D6) (now : Int) (w : World) :
    Calls Try.prog 53 #[aggC o1 n1 c1 o2 n2 c2 c, aggD oa n cap d, .int .i64 now] w fun e w' => SentOut (zD, false, 6) w' e ∧ Below w.heap.size w w' := by
  unfold SentOut
  obtain ⟨rs, ts, q, t⟩ := c
  obtain ⟨ls, rt, pl, tr, du, st⟩ := d
  dsimp only [aggC, aggD, dV, cfgV] at *
  obtain ⟨_, _, V3, B3⟩ := three_boxes w 33 24 24 #[.slice o1 n1 c1, .slice o2 n2 c2, .int .i64 q, .int .i64 t] #[.slice oa n cap, .int .i64 rt, .int .i64 pl, .int .i64 tr, .int .i64 du, .int .i64 st] zV
  go_enter Try.func53, Try.ntmps53
  go_upto_region 1 with fail
  generalize ((w.alloc _).alloc _).alloc _ = wr at *
  have f0 := V3.free 0; have f1 := V3.free 1; have f2 := V3.free 2; have f3 := V3.free 3; have f4 := V3.free 4; have f5 := V3.free 5
  have u0 : wr.cell? ⟨w.heap.size + 1 + 1, 0, none⟩ = some (.slice none 0 0) := V3.cell 0
  have u1 : wr.cell? ⟨w.heap.size + 1 + 1, 1, none⟩ = some (.int .i64 0) := V3.cell 1
  have u2 : wr.cell? ⟨w.heap.size + 1 + 1, 2, none⟩ = some (.int .i64 0) := V3.cell 2
  have u3 : wr.cell? ⟨w.heap.size + 1 + 1, 3, none⟩ = some (.int .i64 0) := V3.cell 3
  have u4 : wr.cell? ⟨w.heap.size + 1 + 1, 4, none⟩ = some (.int .i64 0) := V3.cell 4
  have u5 : wr.cell? ⟨w.heap.size + 1 + 1, 5, none⟩ = some (.int .i64 0) := V3.cell 5
  have V4 := V3.six (.slice none 0 0) (.int .i64 0) (.int .i64 0) (.int .i64 0) (.int .i64 0) (.int .i64 0)
  go_wp2_with fail
  refine bodyPost_ret (retD3 (d := zD) rfl rfl rfl rfl V4) rfl ?_
  exact ⟨⟨none, 0, 0, rfl, DAt.nil _⟩, below_six B3 (by omega) _ _ _ _ _ _⟩
set_option maxRecDepth 100000 in
set_option maxHeartbeats 1600000 in
theorem toBeEnded_any (o1 : Option Addr) (n1 c1 : Nat) (o2 : Option Addr) (n2 c2 : Nat) (c : CfgL) (oa : Option Addr) (n cap : Nat) (d : D6) (now : Int) (w : World) (h : DAt w oa n cap d) :
    Calls Try.prog 52 #[aggC o1 n1 c1 o2 n2 c2 c, aggD oa n cap d, .int .i64 now] w fun e w' => SentOut ({ turnD d now with st := 3 }, false, 0) w' e ∧ Below w.heap.size w w' := by
  unfold SentOut
  obtain ⟨rs, ts, q, t⟩ := c
  obtain ⟨_, V2, V3, B3⟩ := three_boxes w 33 24 24 #[.slice o1 n1 c1, .slice o2 n2 c2, .int .i64 q, .int .i64 t] (dV (.slice oa n cap) d) zV
  have h3 := h.below B3 (Nat.le_refl _)
  have HC := turned_any oa n cap d 3 now _ h3
  generalize hr : ({ turnD d now with st := 3 } : D6) = r at *
  obtain ⟨r1, r2, r3, r4, r5, r6⟩ := r
  obtain ⟨ls, rt, pl, tr, du, st⟩ := d
  dsimp only [aggC, aggD, dV, cfgV] at *
  clear h hr h3
  go_enter Try.func52, Try.ntmps52
  go_upto_region 1 with fail
  generalize ((w.alloc _).alloc _).alloc _ = wr at *
  have y0 : wr.cell? ⟨w.heap.size + 1, 0, none⟩ = some (.slice oa n cap) := V2.cell 0
  have y1 : wr.cell? ⟨w.heap.size + 1, 1, none⟩ = some (.int .i64 rt) := V2.cell 1
  have y2 : wr.cell? ⟨w.heap.size + 1, 2, none⟩ = some (.int .i64 pl) := V2.cell 2
  have y3 : wr.cell? ⟨w.heap.size + 1, 3, none⟩ = some (.int .i64 tr) := V2.cell 3
  have y4 : wr.cell? ⟨w.heap.size + 1, 4, none⟩ = some (.int .i64 du) := V2.cell 4
  have y5 : wr.cell? ⟨w.heap.size + 1, 5, none⟩ = some (.int .i64 st) := V2.cell 5
  go_wp2_with fail
  refine HC.mono ?_
  rintro e w2 ⟨⟨ob, cp, rfl, hO⟩, B4⟩
  have V5 := V3.keep B4 (Nat.le_refl _)
  have B5 := B3.trans (B4.mono B3.size)
  clear y0 y1 y2 y3 y4 y5 V2 V3 B3 B4 HC
  have f0 := V5.free 0; have f1 := V5.free 1; have f2 := V5.free 2; have f3 := V5.free 3; have f4 := V5.free 4; have f5 := V5.free 5
  have u0 : w2.cell? ⟨w.heap.size + 1 + 1, 0, none⟩ = some (.slice none 0 0) := V5.cell 0
  have u1 : w2.cell? ⟨w.heap.size + 1 + 1, 1, none⟩ = some (.int .i64 0) := V5.cell 1
  have u2 : w2.cell? ⟨w.heap.size + 1 + 1, 2, none⟩ = some (.int .i64 0) := V5.cell 2
  have u3 : w2.cell? ⟨w.heap.size + 1 + 1, 3, none⟩ = some (.int .i64 0) := V5.cell 3
  have u4 : w2.cell? ⟨w.heap.size + 1 + 1, 4, none⟩ = some (.int .i64 0) := V5.cell 4
  have u5 : w2.cell? ⟨w.heap.size + 1 + 1, 5, none⟩ = some (.int .i64 0) := V5.cell 5
  have V6 := V5.six (.slice ob n cp) (.int .i64 r2) (.int .i64 r3) (.int .i64 r4) (.int .i64 r5) (.int .i64 r6)
  go_wp2_with fail
  refine bodyPost_ret (retD3 (d := ⟨r1, r2, r3, r4, r5, r6⟩) rfl rfl rfl rfl V6) rfl ?_
  exact ⟨⟨ob, n, cp, rfl, lies_six hO.ls rfl V5 _ _ _ _ _ _ _ _, hO.b⟩, below_six B5 (by omega) _ _ _ _ _ _⟩
end Go.Proofs.Ytaiacohnhhicpaa
namespace Go.Proofs.Ytaiacohnhhicpaa
open Go.RowKit Go.Shelf
set_option linter.unusedVariables false
set_option linter.unusedSimpArgs false

theorem Vals.nine {w : World} {A : Nat} {T : TypeId} {x0 x1 x2 x3 x4 x5 x6 x7 x8 : Value} (h : Vals w A T #[x0, x1, x2, x3, x4, x5, x6, x7, x8]) (y0 y1 y2 y3 y4 y5 y6 y7 y8 : Value) :
    Vals (((((((((w.setCell ⟨A, 0, none⟩ y0).setCell ⟨A, 1, none⟩ y1).setCell ⟨A, 2, none⟩ y2).setCell ⟨A, 3, none⟩ y3).setCell ⟨A, 4, none⟩ y4).setCell ⟨A, 5, none⟩ y5).setCell ⟨A, 6, none⟩ y6).setCell ⟨A, 7, none⟩ y7).setCell ⟨A, 8, none⟩ y8) A T #[y0, y1, y2, y3, y4, y5, y6, y7, y8] := by
  have := ((((((((h.set 0 y0).set 1 y1).set 2 y2).set 3 y3).set 4 y4).set 5 y5).set 6 y6).set 7 y7).set 8 y8
  simpa using this
theorem below_nine {B : Nat} {a w : World} (h : Below B a w) {A : Nat} (hA : B ≤ A) (y0 y1 y2 y3 y4 y5 y6 y7 y8 : Value) :
    Below B a (((((((((w.setCell ⟨A, 0, none⟩ y0).setCell ⟨A, 1, none⟩ y1).setCell ⟨A, 2, none⟩ y2).setCell ⟨A, 3, none⟩ y3).setCell ⟨A, 4, none⟩ y4).setCell ⟨A, 5, none⟩ y5).setCell ⟨A, 6, none⟩ y6).setCell ⟨A, 7, none⟩ y7).setCell ⟨A, 8, none⟩ y8) :=
  ((((((((h.setCell (p := ⟨A, 0, none⟩) hA y0).setCell (p := ⟨A, 1, none⟩) hA y1).setCell (p := ⟨A, 2, none⟩) hA y2).setCell (p := ⟨A, 3, none⟩) hA y3).setCell (p := ⟨A, 4, none⟩) hA y4).setCell (p := ⟨A, 5, none⟩) hA y5).setCell (p := ⟨A, 6, none⟩) hA y6).setCell (p := ⟨A, 7, none⟩) hA y7).setCell (p := ⟨A, 8, none⟩) hA y8

set_option maxRecDepth 100000 in
set_option maxHeartbeats 1600000 in
theorem repeated_any (o1 : Option Addr) (n1 c1 : Nat) (o2 : Option Addr) (n2 c2 : Nat) (c : CfgL) (oa : Option Addr) (n cap : Nat) (d : D6) (now : Int) (w : World) (h : DAt w oa n cap d) (hc : cfgR c = true) (hn : timeB now = true) :
    Calls Try.prog 50 #[aggC o1 n1 c1 o2 n2 c2 c, aggD oa n cap d, .int .i64 now] w fun e w' => SentOut ({ turnD d (Bo.addT now c.2.2.1) with st := 2 }, false, 0) w' e ∧ Below w.heap.size w w' := by
  unfold SentOut
  obtain ⟨q1, q2⟩ := often_of hc
  obtain ⟨t1, t2⟩ := (time_iff now).1 hn
  obtain ⟨rs, ts, q, t⟩ := c
  dsimp only at q1 q2
  obtain ⟨V1, V2, V3, B3⟩ := three_boxes w 33 24 24 #[.slice o1 n1 c1, .slice o2 n2 c2, .int .i64 q, .int .i64 t] (dV (.slice oa n cap) d) zV
  have h3 := h.below B3 (Nat.le_refl _)
  have HA := fun w => Bo.add_yes now q w (by omega) (by omega) (by omega) (by omega)
  generalize Bo.addT now q = a at *
  have HC := fun (w' : World) (hB : Below (((w.alloc (.cells #[.slice o1 n1 c1, .slice o2 n2 c2, .int .i64 q, .int .i64 t] 33)).alloc (.cells (dV (.slice oa n cap) d) 24)).alloc (.cells zV 24)).heap.size (((w.alloc (.cells #[.slice o1 n1 c1, .slice o2 n2 c2, .int .i64 q, .int .i64 t] 33)).alloc (.cells (dV (.slice oa n cap) d) 24)).alloc (.cells zV 24)) w') => turned_any oa n cap d 2 a w' (h3.below hB (Nat.le_refl _))
  generalize hr : ({ turnD d a with st := 2 } : D6) = r at *
  obtain ⟨r1, r2, r3, r4, r5, r6⟩ := r
  obtain ⟨ls, rt, pl, tr, du, st⟩ := d
  dsimp only [aggC, aggD, dV, cfgV] at *
  clear h hr h3 hc hn
  go_enter Try.func50, Try.ntmps50
  go_upto_region 1 with fail
  generalize ((w.alloc _).alloc _).alloc _ = wr at *
  have x2 : wr.cell? ⟨w.heap.size, 2, none⟩ = some (.int .i64 q) := V1.cell 2
  clear V1
  go_wp2_with fail
  refine (HA _).mono ?_
  rintro e w1 ⟨rfl, B4⟩
  have HC2 := HC _ B4
  have V21 := V2.keep B4 (Nat.le_refl _)
  have V31 := V3.keep B4 (Nat.le_refl _)
  have B5 := B3.trans (B4.mono B3.size)
  clear x2 V2 V3 B3 B4 HC HA
  have y0 : w1.cell? ⟨w.heap.size + 1, 0, none⟩ = some (.slice oa n cap) := V21.cell 0
  have y1 : w1.cell? ⟨w.heap.size + 1, 1, none⟩ = some (.int .i64 rt) := V21.cell 1
  have y2 : w1.cell? ⟨w.heap.size + 1, 2, none⟩ = some (.int .i64 pl) := V21.cell 2
  have y3 : w1.cell? ⟨w.heap.size + 1, 3, none⟩ = some (.int .i64 tr) := V21.cell 3
  have y4 : w1.cell? ⟨w.heap.size + 1, 4, none⟩ = some (.int .i64 du) := V21.cell 4
  have y5 : w1.cell? ⟨w.heap.size + 1, 5, none⟩ = some (.int .i64 st) := V21.cell 5
  go_wp2_with fail
  refine HC2.mono ?_
  rintro e w2 ⟨⟨ob, cp, rfl, hO⟩, B6⟩
  have V5 := V31.keep B6 (Nat.le_refl _)
  have B7 := B5.trans (B6.mono B5.size)
  clear y0 y1 y2 y3 y4 y5 V21 V31 B5 B6 HC2
  have f0 := V5.free 0; have f1 := V5.free 1; have f2 := V5.free 2; have f3 := V5.free 3; have f4 := V5.free 4; have f5 := V5.free 5
  have u0 : w2.cell? ⟨w.heap.size + 1 + 1, 0, none⟩ = some (.slice none 0 0) := V5.cell 0
  have u1 : w2.cell? ⟨w.heap.size + 1 + 1, 1, none⟩ = some (.int .i64 0) := V5.cell 1
  have u2 : w2.cell? ⟨w.heap.size + 1 + 1, 2, none⟩ = some (.int .i64 0) := V5.cell 2
  have u3 : w2.cell? ⟨w.heap.size + 1 + 1, 3, none⟩ = some (.int .i64 0) := V5.cell 3
  have u4 : w2.cell? ⟨w.heap.size + 1 + 1, 4, none⟩ = some (.int .i64 0) := V5.cell 4
  have u5 : w2.cell? ⟨w.heap.size + 1 + 1, 5, none⟩ = some (.int .i64 0) := V5.cell 5
  have V6 := V5.six (.slice ob n cp) (.int .i64 r2) (.int .i64 r3) (.int .i64 r4) (.int .i64 r5) (.int .i64 r6)
  go_wp2_with fail
  refine bodyPost_ret (retD3 (d := ⟨r1, r2, r3, r4, r5, r6⟩) rfl rfl rfl rfl V6) rfl ?_
  exact ⟨⟨ob, n, cp, rfl, lies_six hO.ls rfl V5 _ _ _ _ _ _ _ _, hO.b⟩, below_six B7 (by omega) _ _ _ _ _ _⟩

/-- what is told of whose turn it is -/
def rcvO (c : CfgL) (d : D6) : R9 := if whyP c d.rt d.pl = 0 then rcvD c d.rt d.pl else zR
set_option maxRecDepth 100000 in
set_option maxHeartbeats 3200000 in
theorem rcvOf_any (o1 : Option Addr) (n1 c1 : Nat) (o2 : Option Addr) (n2 c2 : Nat) (c : CfgL) (oa : Option Addr) (n cap : Nat) (d : D6) (w : World) (h : CfgAt w o1 n1 c1 o2 n2 c2 c) :
    Calls Try.prog 29 #[aggC o1 n1 c1 o2 n2 c2 c, aggD oa n cap d] w fun e w' => e = .returned (.tuple #[aggR (rcvO c d), .bool (decide (whyP c d.rt d.pl = 0))]) ∧ Below w.heap.size w w' := by
  obtain ⟨V1, V2, V3, B3⟩ := three_boxes w 33 24 47 (cfgV (.slice o1 n1 c1) (.slice o2 n2 c2) c.2.2.1 c.2.2.2) (dV (.slice oa n cap) d) #[.string ⟨#[]⟩, .int .i64 0, .int .i64 0, .int .i64 0, .int .i64 0, .int .i64 0, .int .i64 0, .int .i64 0, .int .i64 0]
  have h3 := h.below B3 (Nat.le_refl _)
  have HR := receiver_any o1 n1 c1 o2 n2 c2 c d.rt d.pl _ h3
  unfold PlaceOut rcvF at HR
  by_cases hz : whyP c d.rt d.pl = 0
  · have HO : Hid (rcvO c d = rcvD c d.rt d.pl) := by show _ = _; unfold rcvO; rw [if_pos hz]
    have HW : Hid (decide (whyP c d.rt d.pl = 0) = true) := by show _ = _; rw [hz]; rfl
    rw [if_pos hz] at HR
    obtain ⟨hcr, hp⟩ := why_has hz
    obtain ⟨k, hk, hat⟩ := (rcv_of hcr hp).2
    have hrd : rcvD c d.rt d.pl = c.1.getD k zR := by unfold rcvD; rw [hat]; rfl
    rw [hat] at HR
    obtain ⟨rr, hrr⟩ : ∃ rr, Hid (c.1.getD k zR = rr) := ⟨_, rfl⟩
    rw [HO.out, HW.out, hrd, hrr.out]
    clear hz hcr hp hat hrd HO HW h
    obtain ⟨rs, ts, q, t⟩ := c
    obtain ⟨ls, rt, pl, tr, du, st⟩ := d
    dsimp only [aggC, aggD, dV, cfgV] at *
    go_enter Try.func29, Try.ntmps29
    go_upto_region 1 with fail
    generalize ((w.alloc _).alloc _).alloc _ = wr at *
    have x0 : wr.cell? ⟨w.heap.size, 0, none⟩ = some (.slice o1 n1 c1) := V1.cell 0
    have x1 : wr.cell? ⟨w.heap.size, 1, none⟩ = some (.slice o2 n2 c2) := V1.cell 1
    have x2 : wr.cell? ⟨w.heap.size, 2, none⟩ = some (.int .i64 q) := V1.cell 2
    have x3 : wr.cell? ⟨w.heap.size, 3, none⟩ = some (.int .i64 t) := V1.cell 3
    have y1 : wr.cell? ⟨w.heap.size + 1, 1, none⟩ = some (.int .i64 rt) := V2.cell 1
    have y2 : wr.cell? ⟨w.heap.size + 1, 2, none⟩ = some (.int .i64 pl) := V2.cell 2
    go_wp2_with fail
    refine HR.mono ?_
    rintro e w1 ⟨rfl, B4⟩
    have hRS := (h3.below B4 (Nat.le_refl _)).rs
    have V31 := V3.keep B4 (Nat.le_refl _)
    have V11 := V1.keep B4 (Nat.le_refl _)
    have B5 := B3.trans (B4.mono B3.size)
    clear x0 x1 x2 x3 y1 y2 V1 V2 V3 B3 B4 HR h3
    have hln := hRS.len
    have hrm := hRS.room
    dsimp only at hln hRS hk
    have hkn : k < n1 := by omega
    obtain ⟨gq, oq, rfl, a0, a1, a2, a3, a4, a5, a6, a7, a8⟩ := hRS.nine k hkn
    rw [show rs.getD k zR = rr from hrr.out] at a0 a1 a2 a3 a4 a5 a6 a7 a8
    clear hrr
    obtain ⟨nm, ba, tp, ji, tr', fa, op, bu, ev⟩ := rr
    dsimp only [aggR, vR] at *
    have x0 : w1.cell? ⟨w.heap.size, 0, none⟩ = some (.slice (some ⟨gq, oq, none⟩) n1 c1) := V11.cell 0
    have f0 := V31.free 0; have f1 := V31.free 1; have f2 := V31.free 2; have f3 := V31.free 3; have f4 := V31.free 4; have f5 := V31.free 5; have f6 := V31.free 6; have f7 := V31.free 7; have f8 := V31.free 8
    have u0 : w1.cell? ⟨w.heap.size + 1 + 1, 0, none⟩ = some (.string ⟨#[]⟩) := V31.cell 0
    have u1 : w1.cell? ⟨w.heap.size + 1 + 1, 1, none⟩ = some (.int .i64 0) := V31.cell 1
    have u2 : w1.cell? ⟨w.heap.size + 1 + 1, 2, none⟩ = some (.int .i64 0) := V31.cell 2
    have u3 : w1.cell? ⟨w.heap.size + 1 + 1, 3, none⟩ = some (.int .i64 0) := V31.cell 3
    have u4 : w1.cell? ⟨w.heap.size + 1 + 1, 4, none⟩ = some (.int .i64 0) := V31.cell 4
    have u5 : w1.cell? ⟨w.heap.size + 1 + 1, 5, none⟩ = some (.int .i64 0) := V31.cell 5
    have u6 : w1.cell? ⟨w.heap.size + 1 + 1, 6, none⟩ = some (.int .i64 0) := V31.cell 6
    have u7 : w1.cell? ⟨w.heap.size + 1 + 1, 7, none⟩ = some (.int .i64 0) := V31.cell 7
    have u8 : w1.cell? ⟨w.heap.size + 1 + 1, 8, none⟩ = some (.int .i64 0) := V31.cell 8
    have V6 := V31.nine (.string nm) (.int .i64 ba) (.int .i64 tp) (.int .i64 ji) (.int .i64 tr') (.int .i64 fa) (.int .i64 op) (.int .i64 bu) (.int .i64 ev)
    clear V11 hRS hln hrm V31
    go_wp2_with fail
    refine bodyPost_ret (retR2 (r := ⟨nm, ba, tp, ji, tr', fa, op, bu, ev⟩) rfl rfl rfl V6) rfl ?_
    exact ⟨rfl, below_nine B5 (by omega) _ _ _ _ _ _ _ _ _⟩
  · have HO : Hid (rcvO c d = zR) := by show _ = _; unfold rcvO; rw [if_neg hz]
    have HW : Hid (decide (whyP c d.rt d.pl = 0) = false) := by show _ = _; exact decide_eq_false hz
    rw [if_neg hz] at HR
    rw [HO.out, HW.out]
    have hzb : (whyP c d.rt d.pl != 0) = true := by simp [hz]
    clear hz HO HW h
    generalize whyP c d.rt d.pl = Z at *
    obtain ⟨rs, ts, q, t⟩ := c
    obtain ⟨ls, rt, pl, tr, du, st⟩ := d
    dsimp only [aggC, aggD, dV, cfgV] at *
    go_enter Try.func29, Try.ntmps29
    go_upto_region 1 with fail
    generalize ((w.alloc _).alloc _).alloc _ = wr at *
    have x0 : wr.cell? ⟨w.heap.size, 0, none⟩ = some (.slice o1 n1 c1) := V1.cell 0
    have x1 : wr.cell? ⟨w.heap.size, 1, none⟩ = some (.slice o2 n2 c2) := V1.cell 1
    have x2 : wr.cell? ⟨w.heap.size, 2, none⟩ = some (.int .i64 q) := V1.cell 2
    have x3 : wr.cell? ⟨w.heap.size, 3, none⟩ = some (.int .i64 t) := V1.cell 3
    have y1 : wr.cell? ⟨w.heap.size + 1, 1, none⟩ = some (.int .i64 rt) := V2.cell 1
    have y2 : wr.cell? ⟨w.heap.size + 1, 2, none⟩ = some (.int .i64 pl) := V2.cell 2
    go_wp2_with fail
    refine HR.mono ?_
    rintro e w1 ⟨rfl, B4⟩
    have V31 := V3.keep B4 (Nat.le_refl _)
    have B5 := B3.trans (B4.mono B3.size)
    clear x0 x1 x2 x3 y1 y2 V1 V2 V3 B3 B4 HR h3
    have f0 := V31.free 0; have f1 := V31.free 1; have f2 := V31.free 2; have f3 := V31.free 3; have f4 := V31.free 4; have f5 := V31.free 5; have f6 := V31.free 6; have f7 := V31.free 7; have f8 := V31.free 8
    have u0 : w1.cell? ⟨w.heap.size + 1 + 1, 0, none⟩ = some (.string ⟨#[]⟩) := V31.cell 0
    have u1 : w1.cell? ⟨w.heap.size + 1 + 1, 1, none⟩ = some (.int .i64 0) := V31.cell 1
    have u2 : w1.cell? ⟨w.heap.size + 1 + 1, 2, none⟩ = some (.int .i64 0) := V31.cell 2
    have u3 : w1.cell? ⟨w.heap.size + 1 + 1, 3, none⟩ = some (.int .i64 0) := V31.cell 3
    have u4 : w1.cell? ⟨w.heap.size + 1 + 1, 4, none⟩ = some (.int .i64 0) := V31.cell 4
    have u5 : w1.cell? ⟨w.heap.size + 1 + 1, 5, none⟩ = some (.int .i64 0) := V31.cell 5
    have u6 : w1.cell? ⟨w.heap.size + 1 + 1, 6, none⟩ = some (.int .i64 0) := V31.cell 6
    have u7 : w1.cell? ⟨w.heap.size + 1 + 1, 7, none⟩ = some (.int .i64 0) := V31.cell 7
    have u8 : w1.cell? ⟨w.heap.size + 1 + 1, 8, none⟩ = some (.int .i64 0) := V31.cell 8
    have V6 := V31.nine (.string ⟨#[]⟩) (.int .i64 0) (.int .i64 0) (.int .i64 0) (.int .i64 0) (.int .i64 0) (.int .i64 0) (.int .i64 0) (.int .i64 0)
    clear V31
    go_wp2_with fail
    refine bodyPost_ret (retR2 (r := zR) rfl rfl rfl V6) rfl ?_
    exact ⟨rfl, below_nine B5 (by omega) _ _ _ _ _ _ _ _ _⟩
end Go.Proofs.Ytaiacohnhhicpaa
