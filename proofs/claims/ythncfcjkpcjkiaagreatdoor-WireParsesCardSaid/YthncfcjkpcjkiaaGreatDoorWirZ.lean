/-
  Plain pieces on words, numbers, matchers, labels and messages, beside no call.
-/
import Derived.Test.YthncfcjkpcjkiaaGreatDoorWirS
import Derived.Test.YthncfcjkpcjkiaaGreatDoorWirX
import Derived.Test.YthncfcjkpcjkiaaGreatDoorTRow
namespace Go.Proofs.YthncfcjkpcjkiaaGreatDoor
open Go.RowKit Go.Shelf
set_option linter.unusedVariables false

theorem valB_nil : valB [] = 0 := rfl
theorem valB_le (l m : List UInt8) : valB l ≤ valB (l ++ m) := by
  induction m generalizing l with
  | nil => simp
  | cons c m ih =>
    have h := ih (l ++ [c])
    rw [valB_snoc, List.append_assoc] at h
    refine Nat.le_trans ?_ h
    omega
theorem numB_empty : numB [] = none := by
  unfold numB
  rw [if_neg]
  exact fun h => digsB_ne _ h.1
theorem numB_odd {l : List UInt8} {c : UInt8} (hc : c ∈ l) (h : isD c = false) : numB l = none := by
  unfold numB
  rw [if_neg]
  intro e
  rw [← e.1] at hc
  rw [digsB_all _ c hc] at h
  cases h
theorem numB_great {l : List UInt8} (h : topT < valB l) : numB l = none := by
  unfold numB
  rw [if_neg]
  intro e
  omega
theorem valB_step (s : ByteArray) (k : Nat) (h : k < s.size) : valB ((bs s).take (k + 1)) = 10 * valB ((bs s).take k) + ((s[k]'h).toNat - 48) := by rw [bs_next s k h, valB_snoc]
theorem bs_mem (s : ByteArray) (k : Nat) (h : k < s.size) : s[k]'h ∈ bs s := by
  have := List.mem_of_getElem? (data_at s k h)
  exact this
/-- what is told of a number's digits -/
def NumOut (e : Ending) (l : List UInt8) : Prop := (∃ n : Nat, numB l = some n ∧ e = .returned (.tuple #[.int .i64 (n : Int), .bool true])) ∨ (numB l = none ∧ ∃ v : Int, e = .returned (.tuple #[.int .i64 v, .bool false]))
theorem splitW_sizes (l : List UInt8) : ∀ acc, (∀ v ∈ splitW acc l, v.length ≤ acc.length + l.length) ∧ (splitW acc l).length ≤ l.length + 1 := by
  induction l with
  | nil => intro acc; simp [splitW]
  | cons c l ih =>
    intro acc
    rw [splitW]
    split
    · obtain ⟨h1, h2⟩ := ih []
      refine ⟨fun v hv => ?_, by simp; omega⟩
      rcases List.mem_cons.1 hv with rfl | hv
      · simp
      · have := h1 v hv
        simp at this ⊢
        omega
    · obtain ⟨h1, h2⟩ := ih (acc ++ [c])
      refine ⟨fun v hv => ?_, by simp; omega⟩
      have := h1 v hv
      simp at this ⊢
      omega
theorem cut_text (s : ByteArray) (f k : Nat) : s.extract f k = tx (((bs s).take k).drop f) := by
  conv => lhs; rw [← tx_of s]
  exact tx_cut _ f k
theorem cut_next (s : ByteArray) (f k : Nat) (h : k < s.size) (hf : f ≤ k) : ((bs s).take k).drop f ++ [s[k]'h] = ((bs s).take (k + 1)).drop f := by
  rw [bs_next s k h, List.drop_append_of_le_length]
  rw [List.length_take, Array.length_toList]
  have : s.size = s.data.size := rfl
  omega
theorem step_skip {ops : Array Oper} {o : Oper} {a : Act} {X E : Prop} (hw : Region.wanted o (yielded ops a.tmps) = false) (h : E) : if Region.wanted o (yielded ops a.tmps) = true then X else E := by
  rw [hw, if_neg (by simp)]
  exact h
/-- what is told of a word: its label -/
def LabOut (e : Ending) (l : List UInt8) : Prop := (∃ x, labelB l = some x ∧ e = .returned (.tuple #[aggL x, .bool true])) ∨ (labelB l = none ∧ ∃ x : L2, e = .returned (.tuple #[aggL x, .bool false]))
theorem labelW_at {s : ByteArray} {k : Nat} (hk : k < s.size) (he : s[k]'hk = 61) (h : labelW [] (bs s) = labelW ((bs s).take k) ((bs s).drop k)) : labelB (bs s) = okL (s.extract 0 k, s.extract (k + 1) s.size) := by
  unfold labelB
  rw [h, bs_drop s k hk, labelW, if_pos he, cut_text, cut_text, bs_all, List.drop_zero]
  rfl
/-- what is told of a word: its matcher -/
def MatOut (e : Ending) (l : List UInt8) : Prop := (∃ x, askedB l = some x ∧ e = .returned (.tuple #[aggM x, .bool true])) ∨ (askedB l = none ∧ ∃ x : M3, e = .returned (.tuple #[aggM x, .bool false]))
theorem kind_of {c : UInt8} {j : Nat} (hj : j < 4) (h : c = signC (j : Int)) : kindB c = some (j : Int) := by rw [h, kind_sign (j : Int) (by omega)]
theorem kind_no {c : UInt8} (h : ∀ j : Nat, j < 4 → c ≠ signC (j : Int)) : kindB c = none := by
  cases e : kindB c with
  | none => rfl
  | some k =>
    obtain ⟨h1, h2, h3⟩ := sign_kind e
    have := h k.toNat (by omega)
    rw [Int.toNat_of_nonneg h2] at this
    exact absurd h1.symm this
theorem askedW_at {s : ByteArray} {k : Nat} {q : Int} (hk : k < s.size) (he : kindB (s[k]'hk) = some q) (h : askedW [] (bs s) = askedW ((bs s).take k) ((bs s).drop k)) : askedB (bs s) = okM (q, s.extract 0 k, s.extract (k + 1) s.size) := by
  unfold askedB
  rw [h, bs_drop s k hk, askedW, he, cut_text, cut_text, bs_all, List.drop_zero]
  rfl
theorem one_at (s : ByteArray) (k : Nat) (h : k < s.size) : s.extract k (k + 1) = tx [s[k]'h] := by
  rw [cut_text, bs_next s k h, List.drop_append_of_le_length (by rw [List.length_take, Array.length_toList]; have : s.size = s.data.size := rfl; omega), List.drop_eq_nil_of_le (by rw [List.length_take]; omega)]
  rfl
/-- what is told of a text: its message, or why there is none -/
def MsgOut (w : World) (e : Ending) (m : MsgL × Int) : Prop := ∃ (oa : Option Addr) (n cap : Nat) (ob : Option Addr) (nb cb : Nat),
  e = .returned (.tuple #[.agg (msgC m.1.1 (.slice oa n cap) m.1.2.2.1 m.1.2.2.2.1 (.slice ob nb cb)), .int .i64 m.2]) ∧ Ls w oa n cap m.1.2.1 ∧ Ms w ob nb cb m.1.2.2.2.2
theorem zero_msg (w : World) (c : Int) (k : Int) : MsgOut w (.returned (.tuple #[.agg (msgC 0 (.slice none 0 0) 0 0 (.slice none 0 0)), .int .i64 c])) (zMsg, c) := ⟨none, 0, 0, none, 0, 0, rfl, Ls.nil _ _ _, Ms.nil _ _ _⟩
theorem ws_at (ws : List (List UInt8)) (k : Nat) (hk : k < ws.length) : (ws.map tx).getD k ByteArray.empty = tx (ws.getD k []) := by
  rw [List.getD_eq_getElem?_getD, List.getD_eq_getElem?_getD, List.getElem?_map, List.getElem?_eq_getElem hk]
  rfl
theorem ws_next (ws : List (List UInt8)) (k : Nat) (hk : k < ws.length) : ws.take (k + 1) = ws.take k ++ [ws.getD k []] := by
  rw [List.take_succ_eq_append_getElem hk, List.getD_eq_getElem?_getD, List.getElem?_eq_getElem hk]
  rfl
theorem ws_mem (ws : List (List UInt8)) (k : Nat) (hk : k < ws.length) : ws.getD k [] ∈ ws := by
  rw [List.getD_eq_getElem?_getD, List.getElem?_eq_getElem hk]
  exact List.getElem_mem _
theorem hush_few {ws : List (List UInt8)} (h : ws.length < 3) : hushB ws = (zMsg, 12) := by unfold hushB; rw [if_pos h]
theorem hush_odd0 {ws : List (List UInt8)} (h : ¬ ws.length < 3) (h0 : numB (ws.getD 0 []) = none) : hushB ws = (zMsg, 13) := by unfold hushB; rw [if_neg h, h0]
theorem hush_odd1 {ws : List (List UInt8)} (h : ¬ ws.length < 3) (h1 : numB (ws.getD 1 []) = none) : hushB ws = (zMsg, 13) := by
  unfold hushB
  rw [if_neg h, h1]
  cases numB (ws.getD 0 []) <;> rfl
theorem hush_ask {ws : List (List UInt8)} {f t : Nat} (h : ¬ ws.length < 3) (h0 : numB (ws.getD 0 []) = some f) (h1 : numB (ws.getD 1 []) = some t) :
    hushB ws = match allO askedB (ws.drop 2) with
      | none => (zMsg, 13)
      | some ms => hushE f t ms := by
  unfold hushB
  rw [if_neg h, h0, h1]
  rfl
theorem parse_long {s : ByteArray} (h : 200 < s.size) : parseB (bs s) = (zMsg, 2) := by unfold parseB; rw [if_pos (by rw [Array.length_toList]; exact h)]
theorem parse_short {s : ByteArray} (h : ¬ 200 < s.size) : parseB (bs s) = wordsB (splitW [] (bs s)) := by unfold parseB; rw [if_neg (by rw [Array.length_toList]; exact h)]
theorem words_fire {ws : List (List UInt8)} (h : ws.getD 0 [] = fireT) : wordsB ws = alertB 0 (ws.drop 1) := by unfold wordsB; rw [if_pos h]
theorem words_done {ws : List (List UInt8)} (h : ws.getD 0 [] = doneT) : wordsB ws = alertB 1 (ws.drop 1) := by unfold wordsB; rw [if_neg (by rw [h]; decide), if_pos h]
theorem words_hush {ws : List (List UInt8)} (h : ws.getD 0 [] = hushT) : wordsB ws = hushB (ws.drop 1) := by unfold wordsB; rw [if_neg (by rw [h]; decide), if_neg (by rw [h]; decide), if_pos h]
theorem words_odd {ws : List (List UInt8)} (h0 : ws.getD 0 [] ≠ fireT) (h1 : ws.getD 0 [] ≠ doneT) (h2 : ws.getD 0 [] ≠ hushT) : wordsB ws = (zMsg, 10) := by unfold wordsB; rw [if_neg h0, if_neg h1, if_neg h2]
theorem tx_beq (a b : List UInt8) (c : Bool) (h : c = true ↔ a = b) : ((tx a).toList == (tx b).toList) = c := bs_beq _ _ c (by rw [h]; unfold bs; rw [tx_data, tx_data])
theorem tx_list (l : List UInt8) : (tx l).toList = l := by rw [ByteArray.toList_eq]; simp [tx]
/-- the words behind the first one -/
theorem Ts.tail {w : World} {g n cap : Nat} {l : List ByteArray} (h : Ts w (some ⟨g, 0, none⟩) n cap l) (hn : 1 ≤ n) (oz : Option Addr) (ho : oz = if cap = 1 then some ⟨g, 0, none⟩ else some ⟨g, 1, none⟩) : Ts w oz (n - 1) (cap - 1) (l.drop 1) := by
  have hr := h.room
  have hl := h.len
  subst ho
  by_cases hc : cap = 1
  · have : n - 1 = 0 := by omega
    rw [if_pos hc, this, List.drop_eq_nil_of_le (by omega)]
    exact Ts.nil _ _ _
  · rw [if_neg hc]
    exact h.dropped 1 hn
/-- five stores of what was told -/
theorem MsgOut.five {w : World} {A : Nat} {m : MsgL × Int} {oa ob : Option Addr} {n cap nb cb : Nat} {k f t : Int} {pa pb : Option Addr} {n1 c1 n2 c2 : Nat} (hV : Vals w A 27 (msgC k (.slice pa n1 c1) f t (.slice pb n2 c2)))
    (hL : Ls w oa n cap m.1.2.1) (hM : Ms w ob nb cb m.1.2.2.2.2) :
    MsgOut (((((w.setCell ⟨A, 0, none⟩ (.int .i64 m.1.1)).setCell ⟨A, 1, none⟩ (.slice oa n cap)).setCell ⟨A, 2, none⟩ (.int .i64 m.1.2.2.1)).setCell ⟨A, 3, none⟩ (.int .i64 m.1.2.2.2.1)).setCell ⟨A, 4, none⟩ (.slice ob nb cb))
      (.returned (.tuple #[.agg (msgC m.1.1 (.slice oa n cap) m.1.2.2.1 m.1.2.2.2.1 (.slice ob nb cb)), .int .i64 m.2])) m := by
  refine ⟨oa, n, cap, ob, nb, cb, rfl, hL.five (fun g o e hn0 => ?_) _ _ _ _ _, hM.five (fun g o e hn0 => ?_) _ _ _ _ _⟩
  · rintro rfl
    obtain ⟨g', o', e', c0, _⟩ := hL.cell 0 hn0
    rw [e] at e'
    cases e'
    rw [hV.cell] at c0
    exact msgC_no _ _ c0
  · rintro rfl
    obtain ⟨g', o', e', _, c1, _⟩ := hM.cell 0 hn0
    rw [e] at e'
    cases e'
    rw [hV.cell] at c1
    exact msgC_no _ _ c1
theorem ask_text (m : M3) : tx (askB m) = m.2.1 ++ tx [signC m.1] ++ m.2.2 := by
  unfold askB
  rw [show m.2.1.data.toList ++ signC m.1 :: m.2.2.data.toList = (m.2.1.data.toList ++ [signC m.1]) ++ m.2.2.data.toList by simp, ← tx_append, ← tx_append, tx_of, tx_of]
theorem hushR_is (f t : Int) (ms : List M3) : hushR f t ms = (timeB f && (timeB t && (decide (f < t) && (decide (1 ≤ ms.length) && matsB ms)))) := by
  unfold hushR matsB
  cases timeB f <;> cases timeB t <;> cases decide (f < t) <;> cases decide (1 ≤ ms.length) <;> rfl
theorem msgR_hush (l : List L2) (f t : Int) (ms : List M3) : msgR (2, l, f, t, ms) = (decide (l.length = 0) && hushR f t ms) := rfl
theorem msgR_alert (q : Int) (hq : q ≠ 2) (l : List L2) (f t : Int) (ms : List M3) : msgR (q, l, f, t, ms) = ((decide (q = 0) || decide (q = 1)) && (rightB l && (decide (f = 0) && (decide (t = 0) && decide (ms.length = 0))))) := by
  unfold msgR
  rw [if_neg hq]
  dsimp only
  cases (decide (q = 0) || decide (q = 1)) <;> cases rightB l <;> cases decide (f = 0) <;> cases decide (t = 0) <;> rfl
end Go.Proofs.YthncfcjkpcjkiaaGreatDoor
