/-
  Plain pieces on words, numbers, matchers, labels and messages, beside no call.
-/
import Derived.Test.YtbihaoibmkdfjaaGreatDoorWirS
import Derived.Test.YtbihaoibmkdfjaaGreatDoorRowX
namespace Go.Proofs.YtbihaoibmkdfjaaGreatDoor
open Go.RowKit Go.Shelf
set_option linter.unusedVariables false

theorem valB_nil : valB [] = 0 := rfl
theorem valB_le (l m : List UInt8) : valB l ≤ valB (l ++ m) := by
  induction m generalizing l with
  | nil => simp
  | cons c m ih =>
    have h := ih (l ++ [c])
    rw [valB_snoc, List.append_assoc] at h
    refine Nat.le_trans ?_ h
    omega
theorem numB_empty : numB [] = none := by
  unfold numB
  rw [if_neg]
  exact fun h => digsB_ne _ h.1
theorem numB_odd {l : List UInt8} {c : UInt8} (hc : c ∈ l) (h : isD c = false) : numB l = none := by
  unfold numB
  rw [if_neg]
  intro e
  rw [← e.1] at hc
  rw [digsB_all _ c hc] at h
  cases h
theorem numB_great {l : List UInt8} (h : topT < valB l) : numB l = none := by
  unfold numB
  rw [if_neg]
  intro e
  omega
theorem valB_step (s : ByteArray) (k : Nat) (h : k < s.size) : valB ((bs s).take (k + 1)) = 10 * valB ((bs s).take k) + ((s[k]'h).toNat - 48) := by rw [bs_next s k h, valB_snoc]
theorem bs_mem (s : ByteArray) (k : Nat) (h : k < s.size) : s[k]'h ∈ bs s := by
  have := List.mem_of_getElem? (data_at s k h)
  exact this
/-- what is told of a number's digits -/
def NumOut (e : Ending) (l : List UInt8) : Prop := (∃ n : Nat, numB l = some n ∧ e = .returned (.tuple #[.int .i64 (n : Int), .bool true])) ∨ (numB l = none ∧ ∃ v : Int, e = .returned (.tuple #[.int .i64 v, .bool false]))
theorem splitW_sizes (l : List UInt8) : ∀ acc, (∀ v ∈ splitW acc l, v.length ≤ acc.length + l.length) ∧ (splitW acc l).length ≤ l.length + 1 := by
  induction l with
  | nil => intro acc; simp [splitW]
  | cons c l ih =>
    intro acc
    rw [splitW]
    split
    · obtain ⟨h1, h2⟩ := ih []
      refine ⟨fun v hv => ?_, by simp; omega⟩
      rcases List.mem_cons.1 hv with rfl | hv
      · simp
      · have := h1 v hv
        simp at this ⊢
        omega
    · obtain ⟨h1, h2⟩ := ih (acc ++ [c])
      refine ⟨fun v hv => ?_, by simp; omega⟩
      have := h1 v hv
      simp at this ⊢
      omega
theorem cut_text (s : ByteArray) (f k : Nat) : s.extract f k = tx (((bs s).take k).drop f) := by
  conv => lhs; rw [← tx_of s]
  exact tx_cut _ f k
theorem cut_next (s : ByteArray) (f k : Nat) (h : k < s.size) (hf : f ≤ k) : ((bs s).take k).drop f ++ [s[k]'h] = ((bs s).take (k + 1)).drop f := by
  rw [bs_next s k h, List.drop_append_of_le_length]
  rw [List.length_take, Array.length_toList]
  have : s.size = s.data.size := rfl
  omega
theorem step_skip {ops : Array Oper} {o : Oper} {a : Act} {X E : Prop} (hw : Region.wanted o (yielded ops a.tmps) = false) (h : E) : if Region.wanted o (yielded ops a.tmps) = true then X else E := by
  rw [hw, if_neg (by simp)]
  exact h
/-- what is told of a word: its matcher -/
def MatOut (e : Ending) (l : List UInt8) : Prop := (∃ x, askedB l = some x ∧ e = .returned (.tuple #[aggM x, .bool true])) ∨ (askedB l = none ∧ ∃ x : M3, e = .returned (.tuple #[aggM x, .bool false]))
theorem kind_of {c : UInt8} {j : Nat} (hj : j < 4) (h : c = signC (j : Int)) : kindB c = some (j : Int) := by rw [h, kind_sign (j : Int) (by omega)]
theorem kind_no {c : UInt8} (h : ∀ j : Nat, j < 4 → c ≠ signC (j : Int)) : kindB c = none := by
  cases e : kindB c with
  | none => rfl
  | some k =>
    obtain ⟨h1, h2, h3⟩ := sign_kind e
    have := h k.toNat (by omega)
    rw [Int.toNat_of_nonneg h2] at this
    exact absurd h1.symm this
theorem askedW_at {s : ByteArray} {k : Nat} {q : Int} (hk : k < s.size) (he : kindB (s[k]'hk) = some q) (h : askedW [] (bs s) = askedW ((bs s).take k) ((bs s).drop k)) : askedB (bs s) = okM (q, s.extract 0 k, s.extract (k + 1) s.size) := by
  unfold askedB
  rw [h, bs_drop s k hk, askedW, he, cut_text, cut_text, bs_all, List.drop_zero]
  rfl
theorem one_at (s : ByteArray) (k : Nat) (h : k < s.size) : s.extract k (k + 1) = tx [s[k]'h] := by
  rw [cut_text, bs_next s k h, List.drop_append_of_le_length (by rw [List.length_take, Array.length_toList]; have : s.size = s.data.size := rfl; omega), List.drop_eq_nil_of_le (by rw [List.length_take]; omega)]
  rfl
theorem ws_at (ws : List (List UInt8)) (k : Nat) (hk : k < ws.length) : (ws.map tx).getD k ByteArray.empty = tx (ws.getD k []) := by
  rw [List.getD_eq_getElem?_getD, List.getD_eq_getElem?_getD, List.getElem?_map, List.getElem?_eq_getElem hk]
  rfl
theorem ws_next (ws : List (List UInt8)) (k : Nat) (hk : k < ws.length) : ws.take (k + 1) = ws.take k ++ [ws.getD k []] := by
  rw [List.take_succ_eq_append_getElem hk, List.getD_eq_getElem?_getD, List.getElem?_eq_getElem hk]
  rfl
theorem ws_mem (ws : List (List UInt8)) (k : Nat) (hk : k < ws.length) : ws.getD k [] ∈ ws := by
  rw [List.getD_eq_getElem?_getD, List.getElem?_eq_getElem hk]
  exact List.getElem_mem _
theorem tx_beq (a b : List UInt8) (c : Bool) (h : c = true ↔ a = b) : ((tx a).toList == (tx b).toList) = c := bs_beq _ _ c (by rw [h]; unfold bs; rw [tx_data, tx_data])
theorem tx_list (l : List UInt8) : (tx l).toList = l := by rw [ByteArray.toList_eq]; simp [tx]
/-- the words behind the first one -/
theorem Ts.tail {w : World} {g n cap : Nat} {l : List ByteArray} (h : Ts w (some ⟨g, 0, none⟩) n cap l) (hn : 1 ≤ n) (oz : Option Addr) (ho : oz = if cap = 1 then some ⟨g, 0, none⟩ else some ⟨g, 1, none⟩) : Ts w oz (n - 1) (cap - 1) (l.drop 1) := by
  have hr := h.room
  have hl := h.len
  subst ho
  by_cases hc : cap = 1
  · have : n - 1 = 0 := by omega
    rw [if_pos hc, this, List.drop_eq_nil_of_le (by omega)]
    exact Ts.nil _ _ _
  · rw [if_neg hc]
    exact h.dropped 1 hn
theorem ask_text (m : M3) : tx (askB m) = m.2.1 ++ tx [signC m.1] ++ m.2.2 := by
  unfold askB
  rw [show m.2.1.data.toList ++ signC m.1 :: m.2.2.data.toList = (m.2.1.data.toList ++ [signC m.1]) ++ m.2.2.data.toList by simp, ← tx_append, ← tx_append, tx_of, tx_of]
end Go.Proofs.YtbihaoibmkdfjaaGreatDoor
