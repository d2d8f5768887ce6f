/-
  Messages as lists: words between blanks, numbers as digits, matchers and labels as texts; what is printed is parsed as it was, and what is parsed may be.
-/
import Derived.Test.YthncfcjkpcjkiaaGreatDoorTxt
import Derived.Test.YthncfcjkpcjkiaaGreatDoorLabQ
import Derived.Test.YthncfcjkpcjkiaaGreatDoorLabN
namespace Go.Proofs.YthncfcjkpcjkiaaGreatDoor
open Go.RowKit
set_option linter.unusedVariables false

/-- words between blanks, the first of them begun -/
def splitW (acc : List UInt8) : List UInt8 → List (List UInt8)
  | [] => [acc]
  | c :: l => if c = 32 then acc :: splitW [] l else splitW (acc ++ [c]) l
def joinB : List (List UInt8) → List UInt8
  | [] => []
  | w :: ws => w ++ ws.flatMap fun v => 32 :: v
theorem splitW_word : ∀ (w acc rest : List UInt8), (∀ c ∈ w, c ≠ 32) → splitW acc (w ++ rest) = splitW (acc ++ w) rest
  | [], acc, rest, _ => by simp
  | c :: w, acc, rest, h => by
    rw [List.cons_append, splitW, if_neg (h c (by simp)), splitW_word w _ rest fun d hd => h d (by simp [hd])]
    simp
theorem splitW_tail : ∀ (ws : List (List UInt8)) (acc : List UInt8), (∀ w ∈ ws, ∀ c ∈ w, c ≠ 32) → splitW acc (ws.flatMap fun v => 32 :: v) = acc :: ws
  | [], acc, _ => rfl
  | w :: ws, acc, h => by
    rw [List.flatMap_cons, List.cons_append, splitW, if_pos rfl, splitW_word w [] _ (h w (by simp)), List.nil_append, splitW_tail ws w fun v hv => h v (by simp [hv])]
theorem split_join (w : List UInt8) (ws : List (List UInt8)) (h : ∀ v ∈ w :: ws, ∀ c ∈ v, c ≠ 32) : splitW [] (joinB (w :: ws)) = w :: ws := by
  rw [joinB, splitW_word w [] _ (h w (by simp)), List.nil_append, splitW_tail ws w fun v hv => h v (by simp [hv])]
theorem splitW_ne (l : List UInt8) : ∀ acc, splitW acc l ≠ [] := by
  induction l with
  | nil => intro acc; simp [splitW]
  | cons c l ih => intro acc; rw [splitW]; split <;> simp [ih]

/-- numbers -/
def digC (d : Nat) : UInt8 := UInt8.ofNat (48 + d)
def digsB (n : Nat) : List UInt8 := if n < 10 then [digC n] else digsB (n / 10) ++ [digC (n % 10)]
termination_by n
decreasing_by omega
def isD (c : UInt8) : Bool := decide (48 ≤ c.toNat) && decide (c.toNat ≤ 57)
def valB (l : List UInt8) : Nat := l.foldl (fun n c => 10 * n + (c.toNat - 48)) 0
def topT : Nat := 1099511627776
def numB (l : List UInt8) : Option Nat := if digsB (valB l) = l ∧ valB l ≤ topT then some (valB l) else none
theorem digC_nat (d : Nat) (h : d < 10) : (digC d).toNat = 48 + d := by
  unfold digC
  simp
  omega
theorem digsB_small (n : Nat) (h : n < 10) : digsB n = [digC n] := by rw [digsB, if_pos h]
theorem digsB_great (n : Nat) (h : ¬ n < 10) : digsB n = digsB (n / 10) ++ [digC (n % 10)] := by rw [digsB, if_neg h]
theorem valB_snoc (l : List UInt8) (c : UInt8) : valB (l ++ [c]) = 10 * valB l + (c.toNat - 48) := by unfold valB; rw [List.foldl_append]; rfl
theorem valB_digs (n : Nat) : valB (digsB n) = n := by
  induction n using Nat.strongRecOn with
  | _ n ih =>
    by_cases h : n < 10
    · rw [digsB_small n h, ← List.nil_append [digC n], valB_snoc, digC_nat n h]
      show 10 * 0 + _ = n
      omega
    · rw [digsB_great n h, valB_snoc, ih (n / 10) (by omega), digC_nat _ (Nat.mod_lt _ (by omega))]
      omega
theorem digsB_all (n : Nat) : ∀ c ∈ digsB n, isD c = true := by
  induction n using Nat.strongRecOn with
  | _ n ih =>
    have hd : ∀ d, d < 10 → isD (digC d) = true := fun d h => by
      unfold isD
      rw [digC_nat d h]
      simp
      omega
    by_cases h : n < 10
    · rw [digsB_small n h]
      intro c hc
      rw [List.mem_singleton.1 hc]
      exact hd n h
    · rw [digsB_great n h]
      intro c hc
      rcases List.mem_append.1 hc with hc | hc
      · exact ih (n / 10) (by omega) c hc
      · rw [List.mem_singleton.1 hc]
        exact hd _ (Nat.mod_lt _ (by omega))
theorem digsB_ne (n : Nat) : digsB n ≠ [] := by
  rw [digsB]
  split <;> simp
theorem digsB_length (k : Nat) : ∀ n, n < 10 ^ (k + 1) → (digsB n).length ≤ k + 1 := by
  induction k with
  | zero => intro n h; rw [digsB_small n (by simpa using h)]; simp
  | succ k ih =>
    intro n h
    by_cases h1 : n < 10
    · rw [digsB_small n h1]; simp
    · rw [digsB_great n h1, List.length_append]
      have := ih (n / 10) (by rw [Nat.pow_succ] at h; omega)
      simp
      omega
theorem numB_digs (n : Nat) (h : n ≤ topT) : numB (digsB n) = some n := by
  unfold numB
  rw [valB_digs, if_pos ⟨rfl, h⟩]
theorem numB_some {l : List UInt8} {n : Nat} (h : numB l = some n) : digsB n = l ∧ n ≤ topT := by
  unfold numB at h
  split at h
  · rename_i hc
    cases h
    exact hc
  · cases h
theorem isD_blank {c : UInt8} (h : isD c = true) : c ≠ 32 := by
  rintro rfl
  revert h
  decide

/-- matchers -/
def kindB (c : UInt8) : Option Int := if c = 61 then some 0 else if c = 33 then some 1 else if c = 94 then some 2 else if c = 63 then some 3 else none
def signC (k : Int) : UInt8 := if k = 0 then 61 else if k = 1 then 33 else if k = 2 then 94 else 63
theorem kind_sign (k : Int) (h : 0 ≤ k ∧ k ≤ 3) : kindB (signC k) = some k := by
  have : k = 0 ∨ k = 1 ∨ k = 2 ∨ k = 3 := by omega
  rcases this with rfl | rfl | rfl | rfl <;> decide
theorem sign_kind {c : UInt8} {k : Int} (h : kindB c = some k) : signC k = c ∧ 0 ≤ k ∧ k ≤ 3 := by
  unfold kindB at h
  split at h
  · cases h; subst c; decide
  · split at h
    · cases h; subst c; decide
    · split at h
      · cases h; subst c; decide
      · split at h
        · cases h; subst c; decide
        · cases h
def askB (m : M3) : List UInt8 := m.2.1.data.toList ++ signC m.1 :: m.2.2.data.toList
def askedW (acc : List UInt8) : List UInt8 → Option M3
  | [] => none
  | c :: l => match kindB c with
    | some k => some (k, tx acc, tx l)
    | none => askedW (acc ++ [c]) l
def okM (m : M3) : Option M3 := if matB m = true then some m else none
def askedB (l : List UInt8) : Option M3 := (askedW [] l).bind okM
theorem askedW_name : ∀ (w acc rest : List UInt8), (∀ c ∈ w, kindB c = none) → askedW acc (w ++ rest) = askedW (acc ++ w) rest
  | [], acc, rest, _ => by simp
  | c :: w, acc, rest, h => by
    rw [List.cons_append, askedW, h c (by simp), askedW_name w _ rest fun d hd => h d (by simp [hd])]
    simp
theorem letter_plain {c : UInt8} (h : letN (c.toNat : Int) = true) : kindB c = none ∧ c ≠ 32 ∧ c ≠ 61 := by
  unfold letN at h
  simp only [Bool.and_eq_true, decide_eq_true_eq] at h
  refine ⟨?_, ?_, ?_⟩
  · unfold kindB
    rw [if_neg, if_neg, if_neg, if_neg] <;> (rintro rfl; revert h; decide)
  · rintro rfl; revert h; decide
  · rintro rfl; revert h; decide
theorem value_plain {c : UInt8} (h : valN (c.toNat : Int) = true) : c ≠ 32 := by
  rintro rfl
  revert h
  decide
theorem all_mem {p : Int → Bool} {s : ByteArray} (h : allB p s = true) {c : UInt8} (hc : c ∈ s.data.toList) : p (c.toNat : Int) = true := List.all_eq_true.1 h c hc
theorem name_letters {s : ByteArray} (h : nameB s = true) : ∀ c ∈ s.data.toList, letN (c.toNat : Int) = true := by
  unfold nameB shortB at h
  simp only [Bool.and_eq_true] at h
  exact fun c hc => all_mem h.2.2 hc
theorem value_letters {s : ByteArray} (h : valueB s = true) : ∀ c ∈ s.data.toList, valN (c.toNat : Int) = true := by
  unfold valueB shortB at h
  simp only [Bool.and_eq_true] at h
  exact fun c hc => all_mem h.2 hc
theorem name_size {s : ByteArray} (h : nameB s = true) : s.data.toList.length ≤ 8 := by
  unfold nameB shortB at h
  simp only [Bool.and_eq_true, decide_eq_true_eq] at h
  have := h.2.1
  rw [Array.length_toList]
  exact this
theorem value_size {s : ByteArray} (h : valueB s = true) : s.data.toList.length ≤ 8 := by
  unfold valueB shortB at h
  simp only [Bool.and_eq_true, decide_eq_true_eq] at h
  rw [Array.length_toList]
  exact h.1
theorem mat_parts {m : M3} (h : matB m = true) : (0 ≤ m.1 ∧ m.1 ≤ 3) ∧ nameB m.2.1 = true ∧ valueB m.2.2 = true := by
  unfold matB at h
  simp only [Bool.and_eq_true, decide_eq_true_eq] at h
  exact ⟨⟨h.1.1.1.1, h.1.1.1.2⟩, h.1.1.2, h.1.2⟩
theorem askedB_ask {m : M3} (h : matB m = true) : askedB (askB m) = some m := by
  obtain ⟨hk, hn, hv⟩ := mat_parts h
  unfold askedB askB
  rw [askedW_name _ [] _ fun c hc => (letter_plain (name_letters hn c hc)).1, askedW, kind_sign m.1 hk, List.nil_append]
  show okM (m.1, tx m.2.1.data.toList, tx m.2.2.data.toList) = _
  rw [tx_of, tx_of]
  unfold okM
  rw [if_pos h]
theorem okM_some {o m : M3} (h : okM o = some m) : o = m ∧ matB m = true := by
  unfold okM at h
  split at h
  · cases h; exact ⟨rfl, by assumption⟩
  · cases h
theorem askedB_some {l : List UInt8} {m : M3} (h : askedB l = some m) : matB m = true := by
  unfold askedB at h
  obtain ⟨o, _, h2⟩ := Option.bind_eq_some_iff.1 h
  exact (okM_some h2).2
theorem ask_plain {m : M3} (h : matB m = true) : (∀ c ∈ askB m, c ≠ 32) ∧ (askB m).length ≤ 17 := by
  obtain ⟨hk, hn, hv⟩ := mat_parts h
  unfold askB
  refine ⟨fun c hc => ?_, ?_⟩
  · rcases List.mem_append.1 hc with hc | hc
    · exact (letter_plain (name_letters hn c hc)).2.1
    · rcases List.mem_cons.1 hc with rfl | hc
      · have : m.1 = 0 ∨ m.1 = 1 ∨ m.1 = 2 ∨ m.1 = 3 := by omega
        rcases this with e | e | e | e <;> rw [e] <;> decide
      · exact value_plain (value_letters hv c hc)
  · have h1 := name_size hn
    have h2 := value_size hv
    rw [List.length_append, List.length_cons]
    omega

/-- labels -/
def labW (x : L2) : List UInt8 := x.1.data.toList ++ 61 :: x.2.data.toList
def labelW (acc : List UInt8) : List UInt8 → Option L2
  | [] => none
  | c :: l => if c = 61 then some (tx acc, tx l) else labelW (acc ++ [c]) l
def okL (x : L2) : Option L2 := if nameB x.1 = true ∧ valueB x.2 = true then some x else none
def labelB (l : List UInt8) : Option L2 := (labelW [] l).bind okL
theorem labelW_name : ∀ (w acc rest : List UInt8), (∀ c ∈ w, c ≠ 61) → labelW acc (w ++ rest) = labelW (acc ++ w) rest
  | [], acc, rest, _ => by simp
  | c :: w, acc, rest, h => by
    rw [List.cons_append, labelW, if_neg (h c (by simp)), labelW_name w _ rest fun d hd => h d (by simp [hd])]
    simp
theorem labelB_lab {x : L2} (hn : nameB x.1 = true) (hv : valueB x.2 = true) : labelB (labW x) = some x := by
  unfold labelB labW
  rw [labelW_name _ [] _ fun c hc => (letter_plain (name_letters hn c hc)).2.2, labelW, if_pos rfl, List.nil_append]
  show okL (tx x.1.data.toList, tx x.2.data.toList) = _
  rw [tx_of, tx_of]
  unfold okL
  rw [if_pos ⟨hn, hv⟩]
theorem labelB_some {l : List UInt8} {x : L2} (h : labelB l = some x) : nameB x.1 = true ∧ valueB x.2 = true := by
  unfold labelB at h
  obtain ⟨o, _, h2⟩ := Option.bind_eq_some_iff.1 h
  unfold okL at h2
  split at h2
  · cases h2; assumption
  · cases h2
theorem lab_plain {x : L2} (hn : nameB x.1 = true) (hv : valueB x.2 = true) : (∀ c ∈ labW x, c ≠ 32) ∧ (labW x).length ≤ 17 := by
  unfold labW
  refine ⟨fun c hc => ?_, ?_⟩
  · rcases List.mem_append.1 hc with hc | hc
    · exact (letter_plain (name_letters hn c hc)).2.1
    · rcases List.mem_cons.1 hc with rfl | hc
      · decide
      · exact value_plain (value_letters hv c hc)
  · have h1 := name_size hn
    have h2 := value_size hv
    rw [List.length_append, List.length_cons]
    omega
end Go.Proofs.YthncfcjkpcjkiaaGreatDoor
