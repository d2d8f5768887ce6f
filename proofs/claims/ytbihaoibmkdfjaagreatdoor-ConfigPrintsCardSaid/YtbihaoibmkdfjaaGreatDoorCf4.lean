/-
  Maps of few texts, made at once: what is put into one, what is found; and which line may come next, and what reads it (package config).
  The program's own: a line, whichever reads it (package config).
-/
import Derived.Test.YtbihaoibmkdfjaaGreatDoorCfH
import Derived.MapKept
import Derived.WideMake
import Derived.ChangeMaps5
namespace Go.Proofs.YtbihaoibmkdfjaaGreatDoor
open Go.RowKit Go.Shelf
set_option linter.unusedVariables false
set_option linter.unusedSimpArgs false

/-- a map of texts in block b, of these in turn -/
def Mp (w : World) (b : Nat) (es : List (List UInt8 × Value)) : Prop := ∃ arr clock, w.heap[b]? = some (.map arr clock) ∧ arr.toList.map (fun e : MapEntry => (e.key, e.val)) = es.map fun p => (Value.string (tx p.1), p.2)
def getM (es : List (List UInt8 × Value)) (s : ByteArray) : Option Value := (es.find? fun p => decide (s = tx p.1)).map (·.2)
theorem findNow_mp (s : ByteArray) : ∀ (l : List MapEntry) (es : List (List UInt8 × Value)) (i : Nat), l.map (fun e : MapEntry => (e.key, e.val)) = es.map (fun p => (Value.string (tx p.1), p.2)) → ∃ r, Instr.findNow .string (.string s) l i = some r ∧ r.map (·.2) = getM es s
  | [], [], i, _ => ⟨none, rfl, rfl⟩
  | [], p :: es, i, h => by simp at h
  | e :: l, [], i, h => by simp at h
  | e :: l, p :: es, i, h => by
    simp only [List.map_cons, List.cons.injEq, Prod.mk.injEq] at h
    obtain ⟨⟨h1, h2⟩, h3⟩ := h
    rw [Instr.findNow, h1]
    simp only [Instr.sameNow]
    by_cases hq : s = tx p.1
    · have hb : (s == tx p.1) = true := (MapKept.bytes_beq _ _).2 hq
      rw [hb]
      exact ⟨_, rfl, by simp [getM, hq, h2]⟩
    · have hb : (s == tx p.1) = false := by
        cases e2 : s == tx p.1 with
        | false => rfl
        | true => exact absurd ((MapKept.bytes_beq _ _).1 e2) hq
      rw [hb]
      obtain ⟨r, h4, h5⟩ := findNow_mp s l es (i + 1) h3
      refine ⟨r, h4, ?_⟩
      rw [h5]
      simp [getM, hq]
theorem Mp.look {w : World} {b : Nat} {es : List (List UInt8 × Value)} (h : Mp w b es) {t kt et : TypeId} (hm : Tryz.prog.underlying t = some (.map kt et)) (hk : Tryz.prog.underlying kt = some .string) (s : ByteArray) {z : Value} (hz : (zeroValue et).run Tryz.prog w = .ok z w) :
    (Instr.lookup t (.map (some b)) (.string s) false).run Tryz.prog w = .ok ((getM es s).getD z) w ∧ (Instr.lookup t (.map (some b)) (.string s) true).run Tryz.prog w = .ok (.tuple #[(getM es s).getD z, .bool (getM es s).isSome]) w := by
  obtain ⟨arr, clock, hb, hl⟩ := h
  obtain ⟨r, hf, hr⟩ := findNow_mp s arr.toList es 0 hl
  have hc : ∀ e, (Instr.checkKey e 10000 kt (.string s)).run Tryz.prog w = .ok () w := fun e => MapKept.run_checkKey (k := .string s) hk (by simp [MapKept.IsKey]) e 9999
  have hfk := MapKept.run_findKey (P := Tryz.prog) (w := w) hk hf
  rw [← hr]
  cases r with
  | none =>
    constructor <;> simp [Instr.lookup, run_underlying hm, MapKept.run_getObj_map hb, hc, hfk, hz, Result.andThen]
  | some q =>
    obtain ⟨i, v⟩ := q
    constructor <;> simp [Instr.lookup, run_underlying hm, MapKept.run_getObj_map hb, hc, hfk, Result.andThen]
theorem look_nil {w : World} {t kt et : TypeId} (hm : Tryz.prog.underlying t = some (.map kt et)) (hk : Tryz.prog.underlying kt = some .string) (s : ByteArray) {z : Value} (hz : (zeroValue et).run Tryz.prog w = .ok z w) :
    (Instr.lookup t (.map none) (.string s) true).run Tryz.prog w = .ok (.tuple #[z, .bool false]) w := by
  have hc : ∀ e, (Instr.checkKey e 10000 kt (.string s)).run Tryz.prog w = .ok () w := fun e => MapKept.run_checkKey (k := .string s) hk (by simp [MapKept.IsKey]) e 9999
  have hf : Instr.findNow .string (.string s) ([] : List MapEntry) 0 = some none := rfl
  have hfk := MapKept.run_findKey (P := Tryz.prog) (w := w) hk hf
  simp [Instr.lookup, run_underlying hm, hc, hfk, hz, Result.andThen]
/-- all but block b is as it was -/
structure Oth (b : Nat) (w w' : World) : Prop where
  os : w'.os = w.os
  tape : w'.tape = w.tape
  output : w'.output = w.output
  size : w'.heap.size = w.heap.size
  block : ∀ k, k ≠ b → w'.heap[k]? = w.heap[k]?
theorem Mp.oth {w w' : World} {b c : Nat} {es : List (List UInt8 × Value)} (h : Mp w c es) (ho : Oth b w w') (hc : c ≠ b) : Mp w' c es := by
  obtain ⟨arr, clock, h1, h2⟩ := h
  exact ⟨arr, clock, (ho.block c hc).trans h1, h2⟩
theorem Mp.alloc {w : World} {c : Nat} {es : List (List UInt8 × Value)} (h : Mp w c es) (o : Obj) : Mp (w.alloc o) c es := by
  obtain ⟨arr, clock, h1, h2⟩ := h
  exact ⟨arr, clock, ((below_alloc w o).block c (Array.getElem?_eq_some_iff.1 h1).1).trans h1, h2⟩
theorem Mp.new (w : World) : Mp (w.alloc (Obj.map #[] 0)) w.heap.size [] := ⟨#[], 0, heap_alloc_new w _, rfl⟩
theorem Mp.lt {w : World} {c : Nat} {es : List (List UInt8 × Value)} (h : Mp w c es) : c < w.heap.size := by
  obtain ⟨arr, clock, h1, h2⟩ := h
  exact (Array.getElem?_eq_some_iff.1 h1).1
theorem below_oth {C b : Nat} {a w w' : World} (h : Below C a w) (ho : Oth b w w') (hb : C ≤ b) : Below C a w' :=
  ⟨ho.os.trans h.os, ho.tape.trans h.tape, ho.output.trans h.output, by rw [ho.size]; exact h.size, fun k hk => (ho.block k (by omega)).trans (h.block k hk)⟩
theorem Mp.put {w : World} {b : Nat} {es : List (List UInt8 × Value)} (h : Mp w b es) {t kt et : TypeId} (hm : Tryz.prog.underlying t = some (.map kt et)) (hk : Tryz.prog.underlying kt = some .string) (k : List UInt8) (v : Value) (hn : getM es (tx k) = none) :
    ∃ w', (Instr.mapUpdate t (.map (some b)) (.string (tx k)) v).run Tryz.prog w = .ok () w' ∧ Mp w' b (es ++ [(k, v)]) ∧ Oth b w w' := by
  obtain ⟨arr, clock, hb, hl⟩ := h
  obtain ⟨r, hf, hr⟩ := findNow_mp (tx k) arr.toList es 0 hl
  have hr0 : r = none := by
    cases r with
    | none => rfl
    | some q => rw [hn] at hr; simp at hr
  subst hr0
  have hc : (Instr.checkKey false 10000 kt (.string (tx k))).run Tryz.prog w = .ok () w := MapKept.run_checkKey (k := .string (tx k)) hk (by simp [MapKept.IsKey]) false 9999
  have hfk := MapKept.run_findKey (P := Tryz.prog) (w := w) hk hf
  have hset := MapKept.heap_set (o' := .map (arr.push { key := .string (tx k), val := v, born := clock }) (clock + 1)) hb
  refine ⟨{ w with heap := w.heap.setIfInBounds b (.map (arr.push { key := .string (tx k), val := v, born := clock }) (clock + 1)) }, by simp [Instr.mapUpdate, run_underlying hm, MapKept.run_getObj_map hb, hc, hfk, MapKept.run_setObj_map _ hb, Result.andThen], ⟨_, _, hset.1, ?_⟩, rfl, rfl, rfl, ?_, hset.2⟩
  · simp [hl]
  · simp
theorem wpList_insert_mp (w : World) {ops : Array Oper} {rest : List Oper} {o : Oper} {a : Act} {Q : Exit → Act → World → Prop}
    (hg : o.guard = none) (m x v : Operand) (t kt et : TypeId) (hop : o.op = Op.insert t m x v) (ht : Tryz.prog.underlying t = some (.map kt et)) (hk : Tryz.prog.underlying kt = some .string) (b : Nat) (hm : a.eval m = .map (some b)) {es : List (List UInt8 × Value)} (hM : Mp w b es)
    (k : List UInt8) (hx : a.eval x = .string (tx k)) {val : Value} (hv : a.eval v = val) (hn : getM es (tx k) = none) (hK : ∀ w', Mp w' b (es ++ [(k, val)]) → Oth b w w' → wpList Tryz.prog ops Q rest (a.put o.dst undef) w') :
    wpList Tryz.prog ops Q (o :: rest) a w := by
  refine wpList_plain hg fun K' hK' => ?_
  obtain ⟨w', hrun, r1, r2⟩ := hM.put ht hk k val hn
  unfold Oper.wp
  simp [execOp, hop, hm, hx, hv, hrun, Result.andThen]
  exact hK' _ _ (hK w' r1 r2)
theorem tx_eq (a b : List UInt8) : (tx a = tx b) = (a = b) := propext ⟨tx_inj, fun h => by rw [h]⟩

abbrev fnR (A : Nat) : Value := .func (.func 35) #[.pointer (some ⟨A, 0, none⟩)] #[]
abbrev fnT (A : Nat) : Value := .func (.func 36) #[.pointer (some ⟨A, 0, none⟩)] #[]
abbrev fnP (A : Nat) : Value := .func (.func 37) #[.pointer (some ⟨A, 0, none⟩)] #[]
abbrev fnB (A : Nat) : Value := .func (.func 38) #[.pointer (some ⟨A, 0, none⟩)] #[]
/-- which line may come next, and what reads it -/
def NextAt (w : World) (M A base : Nat) : Prop := ∃ m0 m1 m2 m3, (base ≤ M ∧ base ≤ m0 ∧ base ≤ m1 ∧ base ≤ m2 ∧ base ≤ m3) ∧ Mp w M [([], .map (some m0)), (rcvT, .map (some m1)), (rteT, .map (some m2)), (repT, .map (some m3))] ∧
  Mp w m0 [(rcvT, fnR A)] ∧ Mp w m1 [(rcvT, fnR A), (rteT, fnT A)] ∧ Mp w m2 [(rteT, fnT A), (repT, fnP A)] ∧ Mp w m3 [(beatT, fnB A)]
theorem Mp.maps {w w' : World} (h : ∀ (K : Nat) es cl, w.heap[K]? = some (Obj.map es cl) → w'.heap[K]? = some (Obj.map es cl)) {b : Nat} {es : List (List UInt8 × Value)} (hM : Mp w b es) : Mp w' b es := by
  obtain ⟨arr, clock, h1, h2⟩ := hM
  exact ⟨arr, clock, h _ _ _ h1, h2⟩
theorem NextAt.maps {w w' : World} {M A base : Nat} (h : NextAt w M A base) (hk : ∀ (K : Nat) es cl, w.heap[K]? = some (Obj.map es cl) → w'.heap[K]? = some (Obj.map es cl)) : NextAt w' M A base := by
  obtain ⟨m0, m1, m2, m3, h0, h1, h2, h3, h4, h5⟩ := h
  exact ⟨m0, m1, m2, m3, h0, h1.maps hk, h2.maps hk, h3.maps hk, h4.maps hk, h5.maps hk⟩
theorem maps_below {w w' : World} (h : Below w.heap.size w w') : ∀ (K : Nat) es cl, w.heap[K]? = some (Obj.map es cl) → w'.heap[K]? = some (Obj.map es cl) := fun K es cl hK => (h.block K (Array.getElem?_eq_some_iff.1 hK).1).trans hK
set_option maxRecDepth 100000 in
set_option maxHeartbeats 6400000 in
theorem next_c (A : Nat) (w : World) :
    Calls Tryz.prog 15 #[.pointer (some ⟨A, 0, none⟩)] w fun e w' => (∃ M, e = .returned (.map (some M)) ∧ NextAt w' M A w.heap.size) ∧ Below w.heap.size w w' := by
  have hmm := @run_makeMap Tryz.prog
  have hmf : ∀ (fn : Fn) (first cap : Array Value) (w : World), (Instr.makeFunc fn first cap).run Tryz.prog w = .ok (.func fn first cap) w := fun _ _ _ _ => rfl
  obtain ⟨M, hM⟩ : ∃ M, M = w.heap.size := ⟨_, rfl⟩
  have B2 := ((below_alloc w (Obj.map #[] 0)).alloc (by simp) (Obj.map #[] 0))
  have fM2 := (Mp.new w).alloc (Obj.map #[] 0)
  have f02 := Mp.new (w.alloc (Obj.map #[] 0))
  have hs1 : (w.alloc (Obj.map #[] 0)).heap.size = w.heap.size + 1 := by simp
  rw [hs1] at f02
  have S2 : Hid (((w.alloc (Obj.map #[] 0)).alloc (Obj.map #[] 0)).heap.size = w.heap.size + 2) := by show _ = _; simp
  clear hs1
  go_enter Tryz.func15, Tryz.ntmps15
  have hUM : Tryz.prog.underlying 40 = some (.map 9 47) := Tryz.underlying40
  have hUI : Tryz.prog.underlying 47 = some (.map 9 45) := Tryz.underlying47
  have hUS : Tryz.prog.underlying 9 = some .string := Tryz.underlying9
  go_wp2_with (first
    | (refine wpList_insert_mp _ ?_ (.tmp 4) (.const (.string ⟨#[114, 101, 99, 101, 105, 118, 101, 114]⟩)) (.tmp 6) _ _ _ ?_ hUI hUS (w.heap.size + 1) ?_ f02 rcvT ?_ (val := fnR A) ?_ ?_ ?_; rfl; rfl; rfl; rfl; rfl; (simp [getM, tx_eq, rcvT, rteT, repT, beatT]); intro w3 f03 o3; change Mp w3 (w.heap.size + 1) [(rcvT, fnR A)] at f03; have B3 := below_oth B2 o3 (by first | omega | (have := B2.size; omega)); have fM3 := fM2.oth o3 (by first | omega | (have := S2.out; omega)); have S3 : Hid (w3.heap.size = w.heap.size + 2) := o3.size.trans S2.out)
    | (refine wpList_insert_mp _ ?_ (.tmp 3) (.const (.string ⟨#[]⟩)) (.tmp 7) _ _ _ ?_ hUM hUS w.heap.size ?_ fM3 [] ?_ (val := .map (some (w.heap.size + 1))) ?_ ?_ ?_; rfl; rfl; rfl; rfl; rfl; (simp [getM, tx_eq, rcvT, rteT, repT, beatT]); intro w4 fM4 o4; change Mp w4 w.heap.size [([], .map (some (w.heap.size + 1)))] at fM4; have B4 := below_oth B3 o4 (by first | omega | (have := B3.size; omega)); have f04 := f03.oth o4 (by first | omega | (have := S3.out; omega)); have S4 : Hid (w4.heap.size = w.heap.size + 2) := o4.size.trans S3.out; have f15 := Mp.new w4; have fM5 := fM4.alloc (Obj.map #[] 0); have f05 := f04.alloc (Obj.map #[] 0); have B5 := B4.alloc B4.size (Obj.map #[] 0); have S5 : Hid ((w4.alloc (Obj.map #[] 0)).heap.size = w.heap.size + 3) := (by show _ = _; rw [World.size_alloc, S4.out]); have nM1 := fM4.lt; have n01 := f04.lt)
    | (refine wpList_insert_mp _ ?_ (.tmp 8) (.const (.string ⟨#[114, 101, 99, 101, 105, 118, 101, 114]⟩)) (.tmp 10) _ _ _ ?_ hUI hUS w4.heap.size ?_ f15 rcvT ?_ (val := fnR A) ?_ ?_ ?_; rfl; rfl; rfl; rfl; rfl; (simp [getM, tx_eq, rcvT, rteT, repT, beatT]); intro w6 f16 o6; change Mp w6 w4.heap.size [(rcvT, fnR A)] at f16; have B6 := below_oth B5 o6 (by first | omega | (have := B5.size; omega)); have fM6 := fM5.oth o6 (by first | omega | (have := S5.out; omega)); have f06 := f05.oth o6 (by first | omega | (have := S5.out; omega)); have S6 : Hid (w6.heap.size = w.heap.size + 3) := o6.size.trans S5.out)
    | (refine wpList_insert_mp _ ?_ (.tmp 8) (.const (.string ⟨#[114, 111, 117, 116, 101]⟩)) (.tmp 12) _ _ _ ?_ hUI hUS w4.heap.size ?_ f16 rteT ?_ (val := fnT A) ?_ ?_ ?_; rfl; rfl; rfl; rfl; rfl; (simp [getM, tx_eq, rcvT, rteT, repT, beatT]); intro w7 f17 o7; change Mp w7 w4.heap.size [(rcvT, fnR A), (rteT, fnT A)] at f17; have B7 := below_oth B6 o7 (by first | omega | (have := B6.size; omega)); have fM7 := fM6.oth o7 (by first | omega | (have := S6.out; omega)); have f07 := f06.oth o7 (by first | omega | (have := S6.out; omega)); have S7 : Hid (w7.heap.size = w.heap.size + 3) := o7.size.trans S6.out)
    | (refine wpList_insert_mp _ ?_ (.tmp 3) (.const (.string ⟨#[114, 101, 99, 101, 105, 118, 101, 114]⟩)) (.tmp 13) _ _ _ ?_ hUM hUS w.heap.size ?_ fM7 rcvT ?_ (val := .map (some w4.heap.size)) ?_ ?_ ?_; rfl; rfl; rfl; rfl; rfl; (simp [getM, tx_eq, rcvT, rteT, repT, beatT]); intro w8 fM8 o8; change Mp w8 w.heap.size [([], .map (some (w.heap.size + 1))), (rcvT, .map (some w4.heap.size))] at fM8; have B8 := below_oth B7 o8 (by first | omega | (have := B7.size; omega)); have f08 := f07.oth o8 (by first | omega | (have := S7.out; omega)); have f18 := f17.oth o8 (by first | omega | (have := S7.out; omega)); have S8 : Hid (w8.heap.size = w.heap.size + 3) := o8.size.trans S7.out; have f29 := Mp.new w8; have fM9 := fM8.alloc (Obj.map #[] 0); have f09 := f08.alloc (Obj.map #[] 0); have f19 := f18.alloc (Obj.map #[] 0); have B9 := B8.alloc B8.size (Obj.map #[] 0); have S9 : Hid ((w8.alloc (Obj.map #[] 0)).heap.size = w.heap.size + 4) := (by show _ = _; rw [World.size_alloc, S8.out]); have nM2 := fM8.lt; have n02 := f08.lt; have n12 := f18.lt)
    | (refine wpList_insert_mp _ ?_ (.tmp 14) (.const (.string ⟨#[114, 111, 117, 116, 101]⟩)) (.tmp 16) _ _ _ ?_ hUI hUS w8.heap.size ?_ f29 rteT ?_ (val := fnT A) ?_ ?_ ?_; rfl; rfl; rfl; rfl; rfl; (simp [getM, tx_eq, rcvT, rteT, repT, beatT]); intro w10 f210 o10; change Mp w10 w8.heap.size [(rteT, fnT A)] at f210; have B10 := below_oth B9 o10 (by first | omega | (have := B9.size; omega)); have fM10 := fM9.oth o10 (by first | omega | (have := S9.out; omega)); have f010 := f09.oth o10 (by first | omega | (have := S9.out; omega)); have f110 := f19.oth o10 (by first | omega | (have := S9.out; omega)); have S10 : Hid (w10.heap.size = w.heap.size + 4) := o10.size.trans S9.out)
    | (refine wpList_insert_mp _ ?_ (.tmp 14) (.const (.string ⟨#[114, 101, 112, 101, 97, 116]⟩)) (.tmp 18) _ _ _ ?_ hUI hUS w8.heap.size ?_ f210 repT ?_ (val := fnP A) ?_ ?_ ?_; rfl; rfl; rfl; rfl; rfl; (simp [getM, tx_eq, rcvT, rteT, repT, beatT]); intro w11 f211 o11; change Mp w11 w8.heap.size [(rteT, fnT A), (repT, fnP A)] at f211; have B11 := below_oth B10 o11 (by first | omega | (have := B10.size; omega)); have fM11 := fM10.oth o11 (by first | omega | (have := S10.out; omega)); have f011 := f010.oth o11 (by first | omega | (have := S10.out; omega)); have f111 := f110.oth o11 (by first | omega | (have := S10.out; omega)); have S11 : Hid (w11.heap.size = w.heap.size + 4) := o11.size.trans S10.out)
    | (refine wpList_insert_mp _ ?_ (.tmp 3) (.const (.string ⟨#[114, 111, 117, 116, 101]⟩)) (.tmp 19) _ _ _ ?_ hUM hUS w.heap.size ?_ fM11 rteT ?_ (val := .map (some w8.heap.size)) ?_ ?_ ?_; rfl; rfl; rfl; rfl; rfl; (simp [getM, tx_eq, rcvT, rteT, repT, beatT]); intro w12 fM12 o12; change Mp w12 w.heap.size [([], .map (some (w.heap.size + 1))), (rcvT, .map (some w4.heap.size)), (rteT, .map (some w8.heap.size))] at fM12; have B12 := below_oth B11 o12 (by first | omega | (have := B11.size; omega)); have f012 := f011.oth o12 (by first | omega | (have := S11.out; omega)); have f112 := f111.oth o12 (by first | omega | (have := S11.out; omega)); have f212 := f211.oth o12 (by first | omega | (have := S11.out; omega)); have S12 : Hid (w12.heap.size = w.heap.size + 4) := o12.size.trans S11.out; have f313 := Mp.new w12; have fM13 := fM12.alloc (Obj.map #[] 0); have f013 := f012.alloc (Obj.map #[] 0); have f113 := f112.alloc (Obj.map #[] 0); have f213 := f212.alloc (Obj.map #[] 0); have B13 := B12.alloc B12.size (Obj.map #[] 0); have S13 : Hid ((w12.alloc (Obj.map #[] 0)).heap.size = w.heap.size + 5) := (by show _ = _; rw [World.size_alloc, S12.out]); have nM3 := fM12.lt; have n03 := f012.lt; have n13 := f112.lt; have n23 := f212.lt)
    | (refine wpList_insert_mp _ ?_ (.tmp 20) (.const (.string ⟨#[98, 101, 97, 116]⟩)) (.tmp 22) _ _ _ ?_ hUI hUS w12.heap.size ?_ f313 beatT ?_ (val := fnB A) ?_ ?_ ?_; rfl; rfl; rfl; rfl; rfl; (simp [getM, tx_eq, rcvT, rteT, repT, beatT]); intro w14 f314 o14; change Mp w14 w12.heap.size [(beatT, fnB A)] at f314; have B14 := below_oth B13 o14 (by first | omega | (have := B13.size; omega)); have fM14 := fM13.oth o14 (by first | omega | (have := S13.out; omega)); have f014 := f013.oth o14 (by first | omega | (have := S13.out; omega)); have f114 := f113.oth o14 (by first | omega | (have := S13.out; omega)); have f214 := f213.oth o14 (by first | omega | (have := S13.out; omega)); have S14 : Hid (w14.heap.size = w.heap.size + 5) := o14.size.trans S13.out)
    | (refine wpList_insert_mp _ ?_ (.tmp 3) (.const (.string ⟨#[114, 101, 112, 101, 97, 116]⟩)) (.tmp 23) _ _ _ ?_ hUM hUS w.heap.size ?_ fM14 repT ?_ (val := .map (some w12.heap.size)) ?_ ?_ ?_; rfl; rfl; rfl; rfl; rfl; (simp [getM, tx_eq, rcvT, rteT, repT, beatT]); intro w15 fM15 o15; change Mp w15 w.heap.size [([], .map (some (w.heap.size + 1))), (rcvT, .map (some w4.heap.size)), (rteT, .map (some w8.heap.size)), (repT, .map (some w12.heap.size))] at fM15; have B15 := below_oth B14 o15 (by first | omega | (have := B14.size; omega)); have f015 := f014.oth o15 (by first | omega | (have := S14.out; omega)); have f115 := f114.oth o15 (by first | omega | (have := S14.out; omega)); have f215 := f214.oth o15 (by first | omega | (have := S14.out; omega)); have f315 := f314.oth o15 (by first | omega | (have := S14.out; omega)); have S15 : Hid (w15.heap.size = w.heap.size + 5) := o15.size.trans S14.out))
  go_ret
  exact ⟨⟨_, rfl, _, _, _, _, ⟨by omega, by omega, by omega, by omega, by omega⟩, fM15, f015, f115, f215, f315⟩, B15⟩
end Go.Proofs.YtbihaoibmkdfjaaGreatDoor
namespace Go.Proofs.YtbihaoibmkdfjaaGreatDoor
open Go.RowKit Go.Shelf
set_option linter.unusedVariables false
set_option linter.unusedSimpArgs false

/-- the word that stands for what came ahead -/
def aheadT : Nat → List UInt8
  | 0 => []
  | 1 => rcvT
  | 2 => rteT
  | 3 => repT
  | _ => beatT
/-- which line a word begins, behind what came ahead -/
def stepJ (a : Nat) (u : List UInt8) : Option Nat := if u = rcvT ∧ a ≤ 1 then some 1 else if u = rteT ∧ (a = 1 ∨ a = 2) then some 2 else if u = repT ∧ a = 2 then some 3 else if u = beatT ∧ a = 3 then some 4 else none
theorem stepJ_word {a j : Nat} {u : List UInt8} (h : stepJ a u = some j) : u = aheadT j ∧ 1 ≤ j ∧ j ≤ 4 := by
  unfold stepJ at h
  split at h
  · rename_i hc; cases h; exact ⟨hc.1, by omega, by omega⟩
  split at h
  · rename_i hc; cases h; exact ⟨hc.1, by omega, by omega⟩
  split at h
  · rename_i hc; cases h; exact ⟨hc.1, by omega, by omega⟩
  split at h
  · rename_i hc; cases h; exact ⟨hc.1, by omega, by omega⟩
  · cases h
theorem addL_none {c : CfgL} {a : Nat} {u : List UInt8} {ws : List (List UInt8)} (h : stepJ a u = none) : addL c a (u :: ws) = .error 10 := by
  unfold stepJ at h
  unfold addL
  show (if u = rcvT ∧ a ≤ 1 then _ else _) = _
  split at h
  · cases h
  rename_i h1
  split at h
  · cases h
  rename_i h2
  split at h
  · cases h
  rename_i h3
  split at h
  · cases h
  rename_i h4
  rw [if_neg h1]
  show (if u = rteT ∧ (a = 1 ∨ a = 2) then _ else _) = _
  rw [if_neg h2]
  show (if u = repT ∧ a = 2 then _ else _) = _
  rw [if_neg h3]
  show (if u = beatT ∧ a = 3 then _ else _) = _
  rw [if_neg h4]
theorem ne_words : rcvT ≠ rteT ∧ rcvT ≠ repT ∧ rcvT ≠ beatT ∧ rteT ≠ repT ∧ rteT ≠ beatT ∧ repT ≠ beatT := by decide
theorem addL_at {c : CfgL} {a j : Nat} {u : List UInt8} {ws : List (List UInt8)} (h : stepJ a u = some j) :
    (j = 1 ∧ addL c a (u :: ws) = (addR c (u :: ws)).map fun c' => (c', 1)) ∨ (j = 2 ∧ addL c a (u :: ws) = (addT c (u :: ws)).map fun c' => (c', 2)) ∨ (j = 3 ∧ addL c a (u :: ws) = (oneB (u :: ws)).map fun n => ((c.1, c.2.1, n, c.2.2.2), 3)) ∨ (j = 4 ∧ addL c a (u :: ws) = (oneB (u :: ws)).map fun n => ((c.1, c.2.1, c.2.2.1, n), 4)) := by
  unfold stepJ at h
  unfold addL
  split at h
  · rename_i h1
    cases h
    exact .inl ⟨rfl, if_pos h1⟩
  rename_i h1
  split at h
  · rename_i h2
    cases h
    exact .inr (.inl ⟨rfl, (if_neg h1).trans (if_pos h2)⟩)
  rename_i h2
  split at h
  · rename_i h3
    cases h
    exact .inr (.inr (.inl ⟨rfl, (if_neg h1).trans ((if_neg h2).trans (if_pos h3))⟩))
  rename_i h3
  split at h
  · rename_i h4
    cases h
    exact .inr (.inr (.inr ⟨rfl, (if_neg h1).trans ((if_neg h2).trans ((if_neg h3).trans (if_pos h4)))⟩))
  · cases h
def fnJ (A : Nat) : Nat → Value
  | 1 => fnR A
  | 2 => fnT A
  | 3 => fnP A
  | _ => fnB A
theorem Mp.drewN {w : World} {b : Nat} {es : List (List UInt8 × Value)} (h : Mp w b es) (n : Nat) : Mp (w.drewN n) b es := by
  obtain ⟨arr, clock, h1, h2⟩ := h
  exact ⟨arr, clock, h1, h2⟩
/-- what is found by a word, behind what came ahead -/
theorem NextAt.find {w : World} {M A base : Nat} (h : NextAt w M A base) (a : Nat) (ha : a ≤ 4) (u : List UInt8) : ∃ inner v b,
    (∀ n, (Instr.lookup 40 (.map (some M)) (.string (tx (aheadT a))) false).run Tryz.prog (w.drewN n) = .ok inner (w.drewN n)) ∧
    (∀ n, (Instr.lookup 47 inner (.string (tx u)) true).run Tryz.prog (w.drewN n) = .ok (.tuple #[v, .bool b]) (w.drewN n)) ∧ ((b = false ∧ stepJ a u = none) ∨ ∃ j, b = true ∧ stepJ a u = some j ∧ v = fnJ A j) := by
  obtain ⟨m0, m1, m2, m3, _, hM, h0, h1, h2, h3⟩ := h
  have hUM : Tryz.prog.underlying 40 = some (.map 9 47) := Tryz.underlying40
  have hUI : Tryz.prog.underlying 47 = some (.map 9 45) := Tryz.underlying47
  have hUS : Tryz.prog.underlying 9 = some .string := Tryz.underlying9
  obtain ⟨zf, hzf⟩ : ∃ zf, ∀ w, (zeroValue 45).run Tryz.prog w = .ok zf w := ⟨_, Tryz.zeroValue45⟩
  have hzm : ∀ w, (zeroValue 47).run Tryz.prog w = .ok (.map none) w := Tryz.zeroValue47
  have L1 := fun n => ((hM.drewN n).look hUM hUS (tx (aheadT a)) (hzm (w.drewN n))).1
  have hcase : a = 0 ∨ a = 1 ∨ a = 2 ∨ a = 3 ∨ a = 4 := by omega
  rcases hcase with rfl | rfl | rfl | rfl | rfl
  · refine ⟨.map (some m0), _, _, fun n => by rw [L1]; simp [getM, tx_eq, aheadT, rcvT, rteT, repT], fun n => ((h0.drewN n).look hUI hUS (tx u) (hzf (w.drewN n))).2, ?_⟩
    by_cases hu : u = rcvT
    · right
      exact ⟨1, by simp [getM, tx_eq, hu], by simp [stepJ, hu], by simp [getM, tx_eq, hu, fnJ]⟩
    · left
      exact ⟨by simp [getM, tx_eq, hu], by simp [stepJ, hu]⟩
  · refine ⟨.map (some m1), _, _, fun n => by rw [L1]; simp [getM, tx_eq, aheadT, rcvT, rteT, repT], fun n => ((h1.drewN n).look hUI hUS (tx u) (hzf (w.drewN n))).2, ?_⟩
    by_cases hu : u = rcvT
    · right
      exact ⟨1, by simp [getM, tx_eq, hu], by simp [stepJ, hu], by simp [getM, tx_eq, hu, fnJ]⟩
    by_cases hu2 : u = rteT
    · right
      exact ⟨2, by simp [getM, tx_eq, hu2, ne_words.1, Ne.symm ne_words.1], by simp [stepJ, hu2, Ne.symm ne_words.1], by simp [getM, tx_eq, hu2, Ne.symm ne_words.1, fnJ]⟩
    · left
      exact ⟨by simp [getM, tx_eq, hu, hu2], by simp [stepJ, hu, hu2]⟩
  · refine ⟨.map (some m2), _, _, fun n => by rw [L1]; simp [getM, tx_eq, aheadT, rcvT, rteT, repT], fun n => ((h2.drewN n).look hUI hUS (tx u) (hzf (w.drewN n))).2, ?_⟩
    by_cases hu : u = rteT
    · right
      exact ⟨2, by simp [getM, tx_eq, hu], by simp [stepJ, hu, Ne.symm ne_words.1], by simp [getM, tx_eq, hu, fnJ]⟩
    by_cases hu2 : u = repT
    · right
      exact ⟨3, by simp [getM, tx_eq, hu2, Ne.symm ne_words.2.2.2.1], by simp [stepJ, hu2, Ne.symm ne_words.2.1, Ne.symm ne_words.2.2.2.1], by simp [getM, tx_eq, hu2, Ne.symm ne_words.2.2.2.1, fnJ]⟩
    · left
      exact ⟨by simp [getM, tx_eq, hu, hu2], by simp [stepJ, hu, hu2]⟩
  · refine ⟨.map (some m3), _, _, fun n => by rw [L1]; simp [getM, tx_eq, aheadT, rcvT, rteT, repT], fun n => ((h3.drewN n).look hUI hUS (tx u) (hzf (w.drewN n))).2, ?_⟩
    by_cases hu : u = beatT
    · right
      exact ⟨4, by simp [getM, tx_eq, hu], by simp [stepJ, hu, Ne.symm ne_words.2.2.1, Ne.symm ne_words.2.2.2.2.1, Ne.symm ne_words.2.2.2.2.2], by simp [getM, tx_eq, hu, fnJ]⟩
    · left
      exact ⟨by simp [getM, tx_eq, hu], by simp [stepJ, hu]⟩
  · refine ⟨.map none, _, _, fun n => by rw [L1]; simp [getM, tx_eq, aheadT, rcvT, rteT, repT, beatT], fun n => look_nil hUI hUS (tx u) (hzf (w.drewN n)), ?_⟩
    left
    exact ⟨rfl, by simp [stepJ]⟩
/-- what is told of a line -/
def LineOut (w w' : World) (base A : Nat) (e : Ending) (a' : Nat) (res : Except Int (CfgL × Nat)) : Prop := (∃ er : Int, e = .returned (.int .i64 er) ∧ ((er = 0 ∧ ∃ c' qs' va' vb', res = .ok (c', a') ∧ Vals w' A 39 (cfgV va' vb' c'.2.2.1 c'.2.2.2) ∧ w'.ownsRow base 52 9 va' c'.1.length (cellsR c'.1) ∧ Own2 w' base vb' c'.2.1 qs') ∨ (er ≠ 0 ∧ res = .error er))) ∧
  (∀ (K : Nat) (T : TypeId) ys, Vals w K T ys → T ≠ 39 → T ≠ 52 → T ≠ 56 → Vals w' K T ys) ∧ (∀ (K : Nat) es cl, w.heap[K]? = some (Obj.map es cl) → w'.heap[K]? = some (Obj.map es cl)) ∧ (∀ (B : Nat) (u : World), Below B u w → B ≤ base → B ≤ A → Below B u w')
theorem Frm.low {A : Nat} {w w' : World} {base : Nat} {e : TypeId} {size : Nat} {v : Value} {n : Nat} {xs : List Value} (h : Frm A v.ownBlock w w') (ho : w.ownsRow base e size v n xs) {B : Nat} {u : World} (hB : Below B u w) (h1 : B ≤ base) (h2 : B ≤ A) (h3 : B ≤ w.heap.size) : Below B u w' := by
  refine ⟨h.os.trans hB.os, h.tape.trans hB.tape, h.output.trans hB.output, Nat.le_trans hB.size h.size, fun k hk => (h.block k (by omega) (by omega) ?_).trans (hB.block k hk)⟩
  intro e1
  have := (ho.lt k e1.symm).1
  omega
theorem line_rcv {c : CfgL} {va vb : Value} {rep beat : Int} {base A a : Nat} {u : List UInt8} {ws : List (List UInt8)} {w w' : World} {e : Ending} {qs : List (Value × Value)} (hV : Vals w A 39 (cfgV va vb rep beat)) (hr : rep = c.2.2.1) (hb : beat = c.2.2.2)
    (hc : w.ownsRow base 52 9 va c.1.length (cellsR c.1)) (hO : Own2 w base vb c.2.1 qs) (hj : addL c a (u :: ws) = (addR c (u :: ws)).map fun c' => (c', 1)) (h : RcvOut w w' base A e c va vb rep beat (u :: ws)) (hbw : base ≤ w.heap.size) : LineOut w w' base A e 1 (addL c a (u :: ws)) := by
  obtain ⟨er, he, hor, hF⟩ := h
  refine ⟨⟨er, he, ?_⟩, fun K T ys hK h1 h2 _ => hF.vals hc hV hK h1 h2, fun K es cl hK => hF.map hc hV hK, fun B u hB h1 h2 => hF.low hc hB h1 h2 (Nat.le_trans h1 hbw)⟩
  rcases hor with ⟨h0, r, va', h1, h2, h3⟩ | ⟨h0, h1⟩
  · refine .inl ⟨h0, (c.1 ++ [r], c.2), qs, va', vb, by rw [hj, h1]; rfl, by rw [hr, hb] at h2; exact h2, ?_, hO.frm hF hc hV⟩
    show w'.ownsRow base _ 9 va' (c.1 ++ [r]).length _
    rw [List.length_append]
    exact h3
  · exact .inr ⟨h0, by rw [hj, h1]; rfl⟩
theorem line_rte {c : CfgL} {va vb : Value} {rep beat : Int} {base A a : Nat} {u : List UInt8} {ws : List (List UInt8)} {w w' : World} {e : Ending} {qs : List (Value × Value)} (hV : Vals w A 39 (cfgV va vb rep beat)) (hr : rep = c.2.2.1) (hb : beat = c.2.2.2)
    (hc : w.ownsRow base 52 9 va c.1.length (cellsR c.1)) (hO : Own2 w base vb c.2.1 qs) (hj : addL c a (u :: ws) = (addT c (u :: ws)).map fun c' => (c', 2)) (h : RteOut w w' base A e c va vb rep beat (u :: ws)) (hbw : base ≤ w.heap.size) : LineOut w w' base A e 2 (addL c a (u :: ws)) := by
  obtain ⟨er, he, hor, hF⟩ := h
  refine ⟨⟨er, he, ?_⟩, fun K T ys hK h1 _ h2 => hF.vals hO.own hV hK h1 h2, fun K es cl hK => hF.map hO.own hV hK, fun B u hB h1 h2 => hF.low hO.own hB h1 h2 (Nat.le_trans h1 hbw)⟩
  rcases hor with ⟨h0, t, qs', vb', h1, h2, h3⟩ | ⟨h0, h1⟩
  · exact .inl ⟨h0, (c.1, c.2.1 ++ [t], c.2.2), qs', va, vb', by rw [hj, h1]; rfl, by rw [hr, hb] at h2; exact h2, hF.own hO.own hV hc (by decide) (by decide), h3⟩
  · exact .inr ⟨h0, by rw [hj, h1]; rfl⟩
theorem frm_nil {A : Nat} {w w' : World} (h : Frm A none w w') : Frm A (Value.slice none 0 0).ownBlock w w' := h
theorem line_one {c : CfgL} {va vb : Value} {rep beat : Int} {base A a : Nat} {u : List UInt8} {ws : List (List UInt8)} {w w' : World} {e : Ending} {qs : List (Value × Value)} (at3 : Bool) (hV : Vals w A 39 (cfgV va vb rep beat)) (hr : rep = c.2.2.1) (hb : beat = c.2.2.2)
    (hc : w.ownsRow base 52 9 va c.1.length (cellsR c.1)) (hO : Own2 w base vb c.2.1 qs) (j : Nat) (hj : addL c a (u :: ws) = (oneB (u :: ws)).map fun n => ((if at3 = true then (c.1, c.2.1, c.2.2.1, n) else (c.1, c.2.1, n, c.2.2.2)), j)) (h : OneOut w w' A e va vb rep beat at3 (u :: ws)) (hbw : base ≤ w.heap.size) : LineOut w w' base A e j (addL c a (u :: ws)) := by
  obtain ⟨m, er, he, hor, hV', hF0⟩ := h
  have hF := frm_nil hF0
  have hn := World.ownsRow_nil w base 39 4
  refine ⟨⟨er, he, ?_⟩, fun K T ys hK h1 _ h2 => hF.vals hn hV hK h1 h1, fun K es cl hK => hF.map hn hV hK, fun B u hB h1 h2 => hF.low hn hB h1 h2 (Nat.le_trans h1 hbw)⟩
  rcases hor with ⟨h0, h1⟩ | ⟨h0, _, h1⟩
  · left
    cases at3 with
    | true => exact ⟨h0, (c.1, c.2.1, c.2.2.1, m), qs, va, vb, by rw [hj, h1]; rfl, by rw [hr] at hV'; exact hV', hF.own hn hV hc (by decide) (by decide), ⟨hF.own hn hV hO.own (by decide) (by decide), hO.len, fun i hi => ⟨hF.own hn hV (hO.part i hi).1 (by decide) (by decide), hF.own hn hV (hO.part i hi).2 (by decide) (by decide)⟩⟩⟩
    | false => exact ⟨h0, (c.1, c.2.1, m, c.2.2.2), qs, va, vb, by rw [hj, h1]; rfl, by rw [hb] at hV'; exact hV', hF.own hn hV hc (by decide) (by decide), ⟨hF.own hn hV hO.own (by decide) (by decide), hO.len, fun i hi => ⟨hF.own hn hV (hO.part i hi).1 (by decide) (by decide), hF.own hn hV (hO.part i hi).2 (by decide) (by decide)⟩⟩⟩
  · exact .inr ⟨h0, by rw [hj, h1]; rfl⟩
end Go.Proofs.YtbihaoibmkdfjaaGreatDoor
