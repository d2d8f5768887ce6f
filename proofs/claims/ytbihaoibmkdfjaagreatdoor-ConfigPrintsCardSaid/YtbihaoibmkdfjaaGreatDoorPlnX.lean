/-
  Messages as lists: words between blanks, numbers as digits, matchers and labels as texts; what is printed is parsed as it was, and what is parsed may be.
  Messages: which may be, their texts, and what a text says; printed and parsed.
  Configs as lists: which may be, their texts, and what a text says.
  Configs as lists: what is printed is parsed as it was.
  Configs as lists: what is printed is parsed as it was: routes, and all of it.
  Configs as lists: what is parsed may be; the first line that is wrong is told, whatever stands behind it.
-/
import Derived.Test.YtbihaoibmkdfjaaGreatDoorTxt
import Derived.Test.YtbihaoibmkdfjaaGreatDoorLabN
namespace Go.Proofs.YtbihaoibmkdfjaaGreatDoor
open Go.RowKit
set_option linter.unusedVariables false

/-- words between blanks, the first of them begun -/
def splitW (acc : List UInt8) : List UInt8 → List (List UInt8)
  | [] => [acc]
  | c :: l => if c = 32 then acc :: splitW [] l else splitW (acc ++ [c]) l
def joinB : List (List UInt8) → List UInt8
  | [] => []
  | w :: ws => w ++ ws.flatMap fun v => 32 :: v
theorem splitW_word : ∀ (w acc rest : List UInt8), (∀ c ∈ w, c ≠ 32) → splitW acc (w ++ rest) = splitW (acc ++ w) rest
  | [], acc, rest, _ => by simp
  | c :: w, acc, rest, h => by
    rw [List.cons_append, splitW, if_neg (h c (by simp)), splitW_word w _ rest fun d hd => h d (by simp [hd])]
    simp
theorem splitW_tail : ∀ (ws : List (List UInt8)) (acc : List UInt8), (∀ w ∈ ws, ∀ c ∈ w, c ≠ 32) → splitW acc (ws.flatMap fun v => 32 :: v) = acc :: ws
  | [], acc, _ => rfl
  | w :: ws, acc, h => by
    rw [List.flatMap_cons, List.cons_append, splitW, if_pos rfl, splitW_word w [] _ (h w (by simp)), List.nil_append, splitW_tail ws w fun v hv => h v (by simp [hv])]
theorem split_join (w : List UInt8) (ws : List (List UInt8)) (h : ∀ v ∈ w :: ws, ∀ c ∈ v, c ≠ 32) : splitW [] (joinB (w :: ws)) = w :: ws := by
  rw [joinB, splitW_word w [] _ (h w (by simp)), List.nil_append, splitW_tail ws w fun v hv => h v (by simp [hv])]
theorem splitW_ne (l : List UInt8) : ∀ acc, splitW acc l ≠ [] := by
  induction l with
  | nil => intro acc; simp [splitW]
  | cons c l ih => intro acc; rw [splitW]; split <;> simp [ih]

/-- numbers -/
def digC (d : Nat) : UInt8 := UInt8.ofNat (48 + d)
def digsB (n : Nat) : List UInt8 := if n < 10 then [digC n] else digsB (n / 10) ++ [digC (n % 10)]
termination_by n
decreasing_by omega
def isD (c : UInt8) : Bool := decide (48 ≤ c.toNat) && decide (c.toNat ≤ 57)
def valB (l : List UInt8) : Nat := l.foldl (fun n c => 10 * n + (c.toNat - 48)) 0
def topT : Nat := 1099511627776
def numB (l : List UInt8) : Option Nat := if digsB (valB l) = l ∧ valB l ≤ topT then some (valB l) else none
theorem digC_nat (d : Nat) (h : d < 10) : (digC d).toNat = 48 + d := by
  unfold digC
  simp
  omega
theorem digsB_small (n : Nat) (h : n < 10) : digsB n = [digC n] := by rw [digsB, if_pos h]
theorem digsB_great (n : Nat) (h : ¬ n < 10) : digsB n = digsB (n / 10) ++ [digC (n % 10)] := by rw [digsB, if_neg h]
theorem valB_snoc (l : List UInt8) (c : UInt8) : valB (l ++ [c]) = 10 * valB l + (c.toNat - 48) := by unfold valB; rw [List.foldl_append]; rfl
theorem valB_digs (n : Nat) : valB (digsB n) = n := by
  induction n using Nat.strongRecOn with
  | _ n ih =>
    by_cases h : n < 10
    · rw [digsB_small n h, ← List.nil_append [digC n], valB_snoc, digC_nat n h]
      show 10 * 0 + _ = n
      omega
    · rw [digsB_great n h, valB_snoc, ih (n / 10) (by omega), digC_nat _ (Nat.mod_lt _ (by omega))]
      omega
theorem digsB_all (n : Nat) : ∀ c ∈ digsB n, isD c = true := by
  induction n using Nat.strongRecOn with
  | _ n ih =>
    have hd : ∀ d, d < 10 → isD (digC d) = true := fun d h => by
      unfold isD
      rw [digC_nat d h]
      simp
      omega
    by_cases h : n < 10
    · rw [digsB_small n h]
      intro c hc
      rw [List.mem_singleton.1 hc]
      exact hd n h
    · rw [digsB_great n h]
      intro c hc
      rcases List.mem_append.1 hc with hc | hc
      · exact ih (n / 10) (by omega) c hc
      · rw [List.mem_singleton.1 hc]
        exact hd _ (Nat.mod_lt _ (by omega))
theorem digsB_ne (n : Nat) : digsB n ≠ [] := by
  rw [digsB]
  split <;> simp
theorem digsB_length (k : Nat) : ∀ n, n < 10 ^ (k + 1) → (digsB n).length ≤ k + 1 := by
  induction k with
  | zero => intro n h; rw [digsB_small n (by simpa using h)]; simp
  | succ k ih =>
    intro n h
    by_cases h1 : n < 10
    · rw [digsB_small n h1]; simp
    · rw [digsB_great n h1, List.length_append]
      have := ih (n / 10) (by rw [Nat.pow_succ] at h; omega)
      simp
      omega
theorem numB_digs (n : Nat) (h : n ≤ topT) : numB (digsB n) = some n := by
  unfold numB
  rw [valB_digs, if_pos ⟨rfl, h⟩]
theorem numB_some {l : List UInt8} {n : Nat} (h : numB l = some n) : digsB n = l ∧ n ≤ topT := by
  unfold numB at h
  split at h
  · rename_i hc
    cases h
    exact hc
  · cases h
theorem isD_blank {c : UInt8} (h : isD c = true) : c ≠ 32 := by
  rintro rfl
  revert h
  decide

/-- matchers -/
def kindB (c : UInt8) : Option Int := if c = 61 then some 0 else if c = 33 then some 1 else if c = 94 then some 2 else if c = 63 then some 3 else none
def signC (k : Int) : UInt8 := if k = 0 then 61 else if k = 1 then 33 else if k = 2 then 94 else 63
theorem kind_sign (k : Int) (h : 0 ≤ k ∧ k ≤ 3) : kindB (signC k) = some k := by
  have : k = 0 ∨ k = 1 ∨ k = 2 ∨ k = 3 := by omega
  rcases this with rfl | rfl | rfl | rfl <;> decide
theorem sign_kind {c : UInt8} {k : Int} (h : kindB c = some k) : signC k = c ∧ 0 ≤ k ∧ k ≤ 3 := by
  unfold kindB at h
  split at h
  · cases h; subst c; decide
  · split at h
    · cases h; subst c; decide
    · split at h
      · cases h; subst c; decide
      · split at h
        · cases h; subst c; decide
        · cases h
def askB (m : M3) : List UInt8 := m.2.1.data.toList ++ signC m.1 :: m.2.2.data.toList
def askedW (acc : List UInt8) : List UInt8 → Option M3
  | [] => none
  | c :: l => match kindB c with
    | some k => some (k, tx acc, tx l)
    | none => askedW (acc ++ [c]) l
def okM (m : M3) : Option M3 := if matB m = true then some m else none
def askedB (l : List UInt8) : Option M3 := (askedW [] l).bind okM
theorem askedW_name : ∀ (w acc rest : List UInt8), (∀ c ∈ w, kindB c = none) → askedW acc (w ++ rest) = askedW (acc ++ w) rest
  | [], acc, rest, _ => by simp
  | c :: w, acc, rest, h => by
    rw [List.cons_append, askedW, h c (by simp), askedW_name w _ rest fun d hd => h d (by simp [hd])]
    simp
theorem letter_plain {c : UInt8} (h : letN (c.toNat : Int) = true) : kindB c = none ∧ c ≠ 32 ∧ c ≠ 61 := by
  unfold letN at h
  simp only [Bool.and_eq_true, decide_eq_true_eq] at h
  refine ⟨?_, ?_, ?_⟩
  · unfold kindB
    rw [if_neg, if_neg, if_neg, if_neg] <;> (rintro rfl; revert h; decide)
  · rintro rfl; revert h; decide
  · rintro rfl; revert h; decide
theorem value_plain {c : UInt8} (h : valN (c.toNat : Int) = true) : c ≠ 32 := by
  rintro rfl
  revert h
  decide
theorem all_mem {p : Int → Bool} {s : ByteArray} (h : allB p s = true) {c : UInt8} (hc : c ∈ s.data.toList) : p (c.toNat : Int) = true := List.all_eq_true.1 h c hc
theorem name_letters {s : ByteArray} (h : nameB s = true) : ∀ c ∈ s.data.toList, letN (c.toNat : Int) = true := by
  unfold nameB shortB at h
  simp only [Bool.and_eq_true] at h
  exact fun c hc => all_mem h.2.2 hc
theorem value_letters {s : ByteArray} (h : valueB s = true) : ∀ c ∈ s.data.toList, valN (c.toNat : Int) = true := by
  unfold valueB shortB at h
  simp only [Bool.and_eq_true] at h
  exact fun c hc => all_mem h.2 hc
theorem name_size {s : ByteArray} (h : nameB s = true) : s.data.toList.length ≤ 8 := by
  unfold nameB shortB at h
  simp only [Bool.and_eq_true, decide_eq_true_eq] at h
  have := h.2.1
  rw [Array.length_toList]
  exact this
theorem value_size {s : ByteArray} (h : valueB s = true) : s.data.toList.length ≤ 8 := by
  unfold valueB shortB at h
  simp only [Bool.and_eq_true, decide_eq_true_eq] at h
  rw [Array.length_toList]
  exact h.1
theorem mat_parts {m : M3} (h : matB m = true) : (0 ≤ m.1 ∧ m.1 ≤ 3) ∧ nameB m.2.1 = true ∧ valueB m.2.2 = true := by
  unfold matB at h
  simp only [Bool.and_eq_true, decide_eq_true_eq] at h
  exact ⟨⟨h.1.1.1.1, h.1.1.1.2⟩, h.1.1.2, h.1.2⟩
theorem askedB_ask {m : M3} (h : matB m = true) : askedB (askB m) = some m := by
  obtain ⟨hk, hn, hv⟩ := mat_parts h
  unfold askedB askB
  rw [askedW_name _ [] _ fun c hc => (letter_plain (name_letters hn c hc)).1, askedW, kind_sign m.1 hk, List.nil_append]
  show okM (m.1, tx m.2.1.data.toList, tx m.2.2.data.toList) = _
  rw [tx_of, tx_of]
  unfold okM
  rw [if_pos h]
theorem okM_some {o m : M3} (h : okM o = some m) : o = m ∧ matB m = true := by
  unfold okM at h
  split at h
  · cases h; exact ⟨rfl, by assumption⟩
  · cases h
theorem askedB_some {l : List UInt8} {m : M3} (h : askedB l = some m) : matB m = true := by
  unfold askedB at h
  obtain ⟨o, _, h2⟩ := Option.bind_eq_some_iff.1 h
  exact (okM_some h2).2
theorem ask_plain {m : M3} (h : matB m = true) : (∀ c ∈ askB m, c ≠ 32) ∧ (askB m).length ≤ 17 := by
  obtain ⟨hk, hn, hv⟩ := mat_parts h
  unfold askB
  refine ⟨fun c hc => ?_, ?_⟩
  · rcases List.mem_append.1 hc with hc | hc
    · exact (letter_plain (name_letters hn c hc)).2.1
    · rcases List.mem_cons.1 hc with rfl | hc
      · have : m.1 = 0 ∨ m.1 = 1 ∨ m.1 = 2 ∨ m.1 = 3 := by omega
        rcases this with e | e | e | e <;> rw [e] <;> decide
      · exact value_plain (value_letters hv c hc)
  · have h1 := name_size hn
    have h2 := value_size hv
    rw [List.length_append, List.length_cons]
    omega
end Go.Proofs.YtbihaoibmkdfjaaGreatDoor
namespace Go.Proofs.YtbihaoibmkdfjaaGreatDoor
open Go.RowKit
set_option linter.unusedVariables false

/-- all that are one, or none -/
def allO {α β : Type} (f : α → Option β) : List α → Option (List β)
  | [] => some []
  | a :: l => match f a with
    | none => none
    | some b => (allO f l).map (b :: ·)
theorem allO_snoc {α β : Type} (f : α → Option β) (l : List α) (a : α) : allO f (l ++ [a]) = (allO f l).bind fun r => (f a).map fun b => r ++ [b] := by
  induction l with
  | nil =>
    show allO f [a] = _
    unfold allO
    cases f a <;> simp [allO]
  | cons x l ih =>
    rw [List.cons_append, allO, allO]
    cases f x with
    | none => rfl
    | some b =>
      simp only
      rw [ih]
      cases allO f l with
      | none => rfl
      | some r => cases f a <;> rfl
theorem allO_none {α β : Type} {f : α → Option β} {l : List α} {a : α} (ha : a ∈ l) (h : f a = none) : allO f l = none := by
  induction l with
  | nil => cases ha
  | cons x l ih =>
    rw [allO]
    rcases List.mem_cons.1 ha with rfl | ha
    · rw [h]
    · cases f x with
      | none => rfl
      | some b => simp only; rw [ih ha]; rfl
theorem allO_map {α β γ : Type} (f : α → Option β) (g : β → α) (l : List β) (h : ∀ b ∈ l, f (g b) = some b) : allO f (l.map g) = some l := by
  induction l with
  | nil => rfl
  | cons b l ih => rw [List.map_cons, allO, h b (by simp)]; simp only; rw [ih fun c hc => h c (by simp [hc])]; rfl
theorem allO_some {α β : Type} {f : α → Option β} {P : β → Prop} (hf : ∀ a b, f a = some b → P b) : ∀ (l : List α) (r : List β), allO f l = some r → (∀ b ∈ r, P b) ∧ r.length = l.length
  | [], r, h => by cases h; exact ⟨fun b hb => (by cases hb), rfl⟩
  | a :: l, r, h => by
    rw [allO] at h
    cases ha : f a with
    | none => rw [ha] at h; cases h
    | some b =>
      rw [ha] at h
      simp only at h
      obtain ⟨q, hq, rfl⟩ := Option.map_eq_some_iff.1 h
      obtain ⟨h1, h2⟩ := allO_some hf l q hq
      refine ⟨fun c hc => ?_, by simp [h2]⟩
      rcases List.mem_cons.1 hc with rfl | hc
      · exact hf a c ha
      · exact h1 c hc
end Go.Proofs.YtbihaoibmkdfjaaGreatDoor
namespace Go.Proofs.YtbihaoibmkdfjaaGreatDoor
open Go.RowKit
set_option linter.unusedVariables false

/-- a receiver: its name and eight numbers -/
structure R9 where
  nm : ByteArray
  ba : Int
  tp : Int
  ji : Int
  tr : Int
  fa : Int
  op : Int
  bu : Int
  ev : Int
abbrev T2 := List Int × List M3
abbrev CfgL := List R9 × List T2 × Int × Int
def zR : R9 := ⟨⟨#[]⟩, 0, 0, 0, 0, 0, 0, 0, 0⟩
abbrev zC : CfgL := ([], [], 0, 0)
def ifT : List UInt8 := [105, 102]
def rcvT : List UInt8 := [114, 101, 99, 101, 105, 118, 101, 114]
def rteT : List UInt8 := [114, 111, 117, 116, 101]
def repT : List UInt8 := [114, 101, 112, 101, 97, 116]
def beatT : List UInt8 := [98, 101, 97, 116]
def backB (b t j : Int) : Bool := decide (1 ≤ b) && (decide (b ≤ 1048576) && (decide (b ≤ t) && (decide (t ≤ 1073741824) && (decide (0 ≤ j) && decide (j ≤ 1048576)))))
def brkB (f o : Int) : Bool := decide (1 ≤ f) && (decide (f ≤ 100) && (decide (1 ≤ o) && decide (o ≤ 1048576)))
def triB (n : Int) : Bool := decide (1 ≤ n) && decide (n ≤ 100)
def rcvR (r : R9) : Bool := nameB r.nm && (!decide (r.nm = tx ifT) && (backB r.ba r.tp r.ji && (triB r.tr && (brkB r.fa r.op && brkB r.bu r.ev))))
def oftenB (n : Int) : Bool := decide (1 ≤ n) && decide (n ≤ 1073741824)
def chainB (n : Nat) (l : List Int) : Bool := (l.all fun k => decide (0 ≤ k) && decide (k < (n : Int))) && decide l.Nodup
def rteR (n : Nat) (r : T2) : Bool := chainB n r.1 && (decide (1 ≤ r.1.length) && (decide (r.1.length ≤ 4) && matsB r.2))
def numberB (n : Nat) : Bool := decide (1 ≤ n) && decide (n ≤ 4)
def cfgR (c : CfgL) : Bool := (c.1.all rcvR && decide (c.1.map R9.nm).Nodup) && ((c.2.1.all fun r => rteR c.1.length r) && (numberB c.1.length && (numberB c.2.1.length && (oftenB c.2.2.1 && oftenB c.2.2.2))))

/-- lines, but a last one that is empty -/
def linesW (acc : List UInt8) : List UInt8 → List (List UInt8)
  | [] => if acc = [] then [] else [acc]
  | c :: l => if c = 10 then acc :: linesW [] l else linesW (acc ++ [c]) l
def linesB (l : List UInt8) : List (List UInt8) := linesW [] l
theorem linesW_line : ∀ (w acc rest : List UInt8), (∀ c ∈ w, c ≠ 10) → linesW acc (w ++ 10 :: rest) = (acc ++ w) :: linesW [] rest
  | [], acc, rest, _ => by simp [linesW]
  | c :: w, acc, rest, h => by
    rw [List.cons_append, linesW, if_neg (h c (by simp)), linesW_line w _ rest fun d hd => h d (by simp [hd])]
    simp
theorem lines_all : ∀ (ls : List (List UInt8)), (∀ w ∈ ls, ∀ c ∈ w, c ≠ 10) → linesB (ls.flatMap fun v => v ++ [10]) = ls
  | [], _ => rfl
  | w :: ls, h => by
    unfold linesB
    rw [List.flatMap_cons, List.append_assoc, List.singleton_append, linesW_line w [] _ (h w (by simp)), List.nil_append]
    show _ :: linesB _ = _
    rw [lines_all ls fun v hv => h v (by simp [hv])]
theorem linesW_more : ∀ (a acc more : List UInt8), linesW acc (a ++ 10 :: more) = linesW acc (a ++ [10]) ++ linesW [] more
  | [], acc, more => by simp [linesW]
  | c :: a, acc, more => by
    rw [List.cons_append, List.cons_append, linesW, linesW]
    split
    · rw [linesW_more a [] more, List.cons_append]
    · exact linesW_more a _ more
theorem lines_more (a more : List UInt8) : linesB ((a ++ [10]) ++ more) = linesB (a ++ [10]) ++ linesB more := by
  unfold linesB
  rw [List.append_assoc, List.singleton_append, linesW_more]
theorem linesW_nil : ∀ (l acc : List UInt8), linesW acc l = [] ↔ l = [] ∧ acc = []
  | [], acc => by
    rw [linesW]
    split
    · simp_all
    · simp_all
  | c :: l, acc => by
    rw [linesW]
    split
    · simp
    · rw [linesW_nil l]
      simp
theorem lines_nil (l : List UInt8) : linesB l = [] ↔ l = [] := by unfold linesB; rw [linesW_nil]; simp

/-- the words of a config's lines -/
def rcvN (r : R9) : List Int := [r.ba, r.tp, r.ji, r.tr, r.fa, r.op, r.bu, r.ev]
def rcvW (r : R9) : List (List UInt8) := rcvT :: r.nm.data.toList :: (rcvN r).map fun n => digsB n.toNat
def rteW (rs : List R9) (t : T2) : List (List UInt8) := rteT :: ((t.1.map fun k => (rs.getD k.toNat zR).nm.data.toList) ++ ifT :: t.2.map askB)
def cfgW (c : CfgL) : List (List (List UInt8)) := c.1.map rcvW ++ (c.2.1.map (rteW c.1) ++ [[repT, digsB c.2.2.1.toNat], [beatT, digsB c.2.2.2.toNat]])
def printC (c : CfgL) : List UInt8 := ((cfgW c).map joinB).flatMap fun v => v ++ [10]

/-- what a line adds -/
def placeO (l : List R9) (v : List UInt8) : Option Int := (l.findIdx? fun r => decide (r.nm = tx v)).map fun (k : Nat) => (k : Int)
def mkR (v : List UInt8) (n : List Nat) : R9 := ⟨tx v, (n.getD 0 0 : Nat), (n.getD 1 0 : Nat), (n.getD 2 0 : Nat), (n.getD 3 0 : Nat), (n.getD 4 0 : Nat), (n.getD 5 0 : Nat), (n.getD 6 0 : Nat), (n.getD 7 0 : Nat)⟩
def addR (c : CfgL) (w : List (List UInt8)) : Except Int CfgL :=
  if c.1.length = 4 then .error 2 else if w.length ≠ 10 then .error 12 else if (placeO c.1 (w.getD 1 [])).isSome = true then .error 11 else
  match allO numB (w.drop 2) with
  | none => .error 13
  | some n => if rcvR (mkR (w.getD 1 []) n) = true then .ok (c.1 ++ [mkR (w.getD 1 []) n], c.2) else .error 3
/-- the words ahead of the first 'if', and behind it -/
def ifW (acc : List (List UInt8)) : List (List UInt8) → Option (List (List UInt8) × List (List UInt8))
  | [] => none
  | v :: vs => if v = ifT then some (acc, vs) else ifW (acc ++ [v]) vs
def rteE (c : CfgL) (names asks : List (List UInt8)) : Except Int CfgL :=
  match allO (placeO c.1) names with
  | none => .error 4
  | some ch => match allO askedB asks with
    | none => .error 13
    | some ms => if rteR c.1.length (ch, ms) = true then .ok (c.1, c.2.1 ++ [(ch, ms)], c.2.2) else .error 3
def addT (c : CfgL) (w : List (List UInt8)) : Except Int CfgL :=
  if c.2.1.length = 4 then .error 2 else match ifW [] (w.drop 1) with
  | none => .error 12
  | some (names, asks) => rteE c names asks
def oneB (w : List (List UInt8)) : Except Int Int := if w.length ≠ 2 then .error 12 else match numB (w.getD 1 []) with
  | none => .error 13
  | some n => if oftenB (n : Int) = true then .ok (n : Int) else .error 3
def addL (c : CfgL) (a : Nat) (w : List (List UInt8)) : Except Int (CfgL × Nat) :=
  if w.getD 0 [] = rcvT ∧ a ≤ 1 then (addR c w).map fun c' => (c', 1)
  else if w.getD 0 [] = rteT ∧ (a = 1 ∨ a = 2) then (addT c w).map fun c' => (c', 2)
  else if w.getD 0 [] = repT ∧ a = 2 then (oneB w).map fun n => ((c.1, c.2.1, n, c.2.2.2), 3)
  else if w.getD 0 [] = beatT ∧ a = 3 then (oneB w).map fun n => ((c.1, c.2.1, c.2.2.1, n), 4)
  else .error 10
def goL (c : CfgL) (a i : Nat) : List (List UInt8) → CfgL × Nat × Int
  | [] => if a = 4 then (c, 0, 0) else (zC, i, 12)
  | l :: ls => match addL c a (splitW [] l) with
    | .error e => (zC, i, e)
    | .ok (c', a') => goL c' a' (i + 1) ls
def parseC (l : List UInt8) : CfgL × Nat × Int := goL zC 0 0 (linesB l)

theorem goL_error {c : CfgL} {a i : Nat} {l : List UInt8} {ls : List (List UInt8)} {e : Int} (h : addL c a (splitW [] l) = .error e) : goL c a i (l :: ls) = (zC, i, e) := by rw [goL, h]
theorem goL_ok {c c' : CfgL} {a a' i : Nat} {l : List UInt8} {ls : List (List UInt8)} (h : addL c a (splitW [] l) = .ok (c', a')) : goL c a i (l :: ls) = goL c' a' (i + 1) ls := by rw [goL, h]
end Go.Proofs.YtbihaoibmkdfjaaGreatDoor
namespace Go.Proofs.YtbihaoibmkdfjaaGreatDoor
open Go.RowKit
set_option linter.unusedVariables false

def PlainW (w : List UInt8) : Prop := ∀ c ∈ w, 32 < c.toNat
theorem letter_gt {c : UInt8} (h : letN (c.toNat : Int) = true) : 32 < c.toNat := by
  unfold letN at h
  simp only [Bool.and_eq_true, decide_eq_true_eq] at h
  omega
theorem name_gt {s : ByteArray} (h : nameB s = true) : PlainW s.data.toList := fun c hc => letter_gt (name_letters h c hc)
theorem value_gt {s : ByteArray} (h : valueB s = true) : PlainW s.data.toList := fun c hc => by
  have hv := value_letters h c hc
  unfold valN at hv
  simp only [Bool.or_eq_true, Bool.and_eq_true, decide_eq_true_eq] at hv
  rcases hv with (hv | hv) | hv
  · exact letter_gt hv
  · omega
  · omega
theorem digs_gt (n : Nat) : PlainW (digsB n) := fun c hc => by
  have h := digsB_all n c hc
  unfold isD at h
  simp only [Bool.and_eq_true, decide_eq_true_eq] at h
  omega
theorem sign_gt (k : Int) : 32 < (signC k).toNat := by
  unfold signC
  split
  · decide
  split
  · decide
  split
  · decide
  · decide
theorem ask_gt {m : M3} (h : matB m = true) : PlainW (askB m) := by
  obtain ⟨_, hn, hv⟩ := mat_parts h
  intro c hc
  unfold askB at hc
  rcases List.mem_append.1 hc with hc | hc
  · exact name_gt hn c hc
  rcases List.mem_cons.1 hc with rfl | hc
  · exact sign_gt _
  · exact value_gt hv c hc
theorem plain_blank {w : List UInt8} (h : PlainW w) : ∀ c ∈ w, c ≠ 32 := fun c hc e => by
  have := h c hc
  rw [e] at this
  exact absurd this (by decide)
theorem join_line {ws : List (List UInt8)} (h : ∀ v ∈ ws, PlainW v) : ∀ c ∈ joinB ws, c ≠ 10 := by
  intro c hc e
  subst e
  cases ws with
  | nil => cases hc
  | cons w ws =>
    rw [joinB] at hc
    rcases List.mem_append.1 hc with hc | hc
    · exact absurd (h w (by simp) _ hc) (by decide)
    · obtain ⟨v, hv, hc⟩ := List.mem_flatMap.1 hc
      rcases List.mem_cons.1 hc with e | hc
      · exact absurd e (by decide)
      · exact absurd (h v (by simp [hv]) _ hc) (by decide)
theorem goL_words {c c' : CfgL} {a a' i : Nat} {v : List UInt8} {vs ls : List (List UInt8)} (hp : ∀ u ∈ v :: vs, PlainW u) (h : addL c a (v :: vs) = .ok (c', a')) : goL c a i (joinB (v :: vs) :: ls) = goL c' a' (i + 1) ls :=
  goL_ok (by rw [split_join v vs fun u hu => plain_blank (hp u hu), h])

/-- receivers -/
theorem rcv_parts {r : R9} (h : rcvR r = true) : nameB r.nm = true ∧ r.nm ≠ tx ifT ∧ ∀ n ∈ rcvN r, 0 ≤ n ∧ n.toNat ≤ topT := by
  unfold rcvR backB triB brkB at h
  simp only [Bool.and_eq_true, decide_eq_true_eq, Bool.not_eq_true', decide_eq_false_iff_not] at h
  obtain ⟨h1, h2, ⟨b1, b2, b3, b4, b5, b6⟩, ⟨t1, t2⟩, ⟨f1, f2, f3, f4⟩, g1, g2, g3, g4⟩ := h
  refine ⟨h1, h2, ?_⟩
  intro n hn
  unfold rcvN at hn
  unfold topT
  simp only [List.mem_cons, List.not_mem_nil, or_false] at hn
  rcases hn with rfl | rfl | rfl | rfl | rfl | rfl | rfl | rfl <;> omega
theorem rcvW_plain {r : R9} (h : rcvR r = true) : ∀ v ∈ rcvW r, PlainW v := by
  obtain ⟨h1, _, h3⟩ := rcv_parts h
  intro v hv
  unfold rcvW at hv
  rcases List.mem_cons.1 hv with rfl | hv
  · unfold PlainW; decide
  rcases List.mem_cons.1 hv with rfl | hv
  · exact name_gt h1
  · obtain ⟨n, _, rfl⟩ := List.mem_map.1 hv
    exact digs_gt _
theorem rcv_numbers {r : R9} (h : rcvR r = true) : allO numB ((rcvN r).map fun n => digsB n.toNat) = some ((rcvN r).map Int.toNat) := by
  have h3 := (rcv_parts h).2.2
  have e : ((rcvN r).map fun n => digsB n.toNat) = ((rcvN r).map Int.toNat).map digsB := by rw [List.map_map]; rfl
  rw [e]
  exact allO_map (γ := Unit) numB digsB _ fun n hn => by
    obtain ⟨m, hm, rfl⟩ := List.mem_map.1 hn
    exact numB_digs _ (h3 m hm).2
theorem mkR_is {r : R9} (h : rcvR r = true) : mkR r.nm.data.toList ((rcvN r).map Int.toNat) = r := by
  have h3 := (rcv_parts h).2.2
  have h4 : ∀ n ∈ rcvN r, ((n.toNat : Nat) : Int) = n := fun n hn => Int.toNat_of_nonneg (h3 n hn).1
  unfold rcvN at h4
  simp only [List.mem_cons, List.not_mem_nil, or_false, forall_eq_or_imp, forall_eq] at h4
  obtain ⟨e1, e2, e3, e4, e5, e6, e7, e8⟩ := h4
  unfold mkR rcvN
  simp only [List.map_cons, List.map_nil, List.getD_cons_zero, List.getD_cons_succ]
  rw [e1, e2, e3, e4, e5, e6, e7, e8, tx_of]
theorem place_none {l : List R9} {v : List UInt8} (h : tx v ∉ l.map R9.nm) : placeO l v = none := by
  unfold placeO
  rw [List.findIdx?_eq_none_iff.2 fun r hr => by
    simp only [decide_eq_false_iff_not]
    exact fun e => h (List.mem_map.2 ⟨r, hr, e⟩)]
  rfl
theorem add_rcv (rs : List R9) (a : Nat) (r : R9) (ha : a ≤ 1) (hr : rcvR r = true) (hl : rs.length < 4) (hn : r.nm ∉ rs.map R9.nm) : addL (rs, [], 0, 0) a (rcvW r) = .ok ((rs ++ [r], [], 0, 0), 1) := by
  unfold addL
  rw [if_pos ⟨rfl, ha⟩]
  unfold addR
  rw [if_neg (by show ¬ rs.length = 4; omega), if_neg (by simp [rcvW, rcvN])]
  have e1 : (rcvW r).getD 1 [] = r.nm.data.toList := rfl
  have e2 : (rcvW r).drop 2 = (rcvN r).map fun n => digsB n.toNat := rfl
  rw [e1, e2, place_none (by rw [tx_of]; exact hn), if_neg (by simp), rcv_numbers hr]
  simp only
  rw [mkR_is hr, if_pos hr]
  rfl
theorem go_rcvs : ∀ (l rs : List R9) (a i : Nat) (ls : List (List UInt8)), a ≤ 1 → (∀ r ∈ l, rcvR r = true) → (rs ++ l).length ≤ 4 → ((rs ++ l).map R9.nm).Nodup →
    goL (rs, [], 0, 0) a i ((l.map rcvW).map joinB ++ ls) = goL (rs ++ l, [], 0, 0) (if l = [] then a else 1) (i + l.length) ls
  | [], rs, a, i, ls, _, _, _, _ => by simp
  | r :: l, rs, a, i, ls, ha, hr, hl, hn => by
    have h1 := add_rcv rs a r ha (hr r (by simp)) (by simp at hl; omega) (by
      rw [List.map_append, List.map_cons] at hn
      intro hm
      exact absurd rfl ((List.nodup_append.1 hn).2.2 _ hm _ (by simp)))
    rw [List.map_cons, List.map_cons, List.cons_append]
    have e : rcvW r = rcvT :: (r.nm.data.toList :: (rcvN r).map fun n => digsB n.toNat) := rfl
    have hp := rcvW_plain (hr r (by simp))
    rw [e] at h1 hp ⊢
    rw [goL_words hp h1, go_rcvs l (rs ++ [r]) 1 (i + 1) ls (by omega) (fun x hx => hr x (by simp [hx])) (by simpa using hl) (by simpa using hn)]
    have e3 : rs ++ [r] ++ l = rs ++ r :: l := by simp
    have e4 : i + 1 + l.length = i + (r :: l).length := by simp; omega
    rw [e3, e4, if_neg (by simp : ¬ r :: l = []), ite_self]
end Go.Proofs.YtbihaoibmkdfjaaGreatDoor
namespace Go.Proofs.YtbihaoibmkdfjaaGreatDoor
open Go.RowKit
set_option linter.unusedVariables false

theorem ifW_word : ∀ (names acc asks : List (List UInt8)), (∀ v ∈ names, v ≠ ifT) → ifW acc (names ++ ifT :: asks) = some (acc ++ names, asks)
  | [], acc, asks, _ => by simp [ifW]
  | v :: names, acc, asks, h => by
    rw [List.cons_append, ifW, if_neg (h v (by simp)), ifW_word names _ asks fun u hu => h u (by simp [hu])]
    simp
theorem getD_R (rs : List R9) (k : Nat) (hk : k < rs.length) : rs.getD k zR = rs[k] := by rw [List.getD_eq_getElem?_getD, List.getElem?_eq_getElem hk]; rfl
theorem mem_R (rs : List R9) (k : Nat) (hk : k < rs.length) : rs.getD k zR ∈ rs := by rw [getD_R rs k hk]; exact List.getElem_mem _
theorem place_at {rs : List R9} (hd : (rs.map R9.nm).Nodup) (k : Nat) (hk : k < rs.length) : placeO rs (rs.getD k zR).nm.data.toList = some (k : Int) := by
  unfold placeO
  rw [tx_of]
  have h : (rs.findIdx? fun r => decide (r.nm = (rs.getD k zR).nm)) = some k := by
    rw [List.findIdx?_eq_some_iff_getElem]
    refine ⟨hk, by simp only [decide_eq_true_eq]; rw [getD_R rs k hk], fun j hj => ?_⟩
    have hj2 : j < rs.length := by omega
    simp only [decide_eq_true_eq]
    rw [getD_R rs k hk]
    intro e
    have h1 : (rs.map R9.nm)[j]'(by simpa using hj2) = (rs.map R9.nm)[k]'(by simpa using hk) := by simpa using e
    exact (List.pairwise_iff_getElem.1 hd) j k (by simpa using hj2) (by simpa using hk) hj h1
  rw [h]
  rfl
theorem chain_parts {n : Nat} {l : List Int} (h : chainB n l = true) : (∀ k ∈ l, 0 ≤ k ∧ k < (n : Int)) ∧ l.Nodup := by
  unfold chainB at h
  simp only [Bool.and_eq_true, decide_eq_true_eq, List.all_eq_true] at h
  exact h
theorem mats_all {l : List M3} (h : matsB l = true) : l.length ≤ 4 ∧ ∀ m ∈ l, matB m = true := by
  unfold matsB at h
  simp only [Bool.and_eq_true, decide_eq_true_eq, Bool.not_eq_true'] at h
  refine ⟨h.1, fun m hm => ?_⟩
  cases hb : matB m with
  | true => rfl
  | false => rw [List.any_eq_true.2 ⟨m, hm, by rw [hb]; rfl⟩] at h; exact absurd h.2 (by simp)
theorem rte_parts {n : Nat} {t : T2} (h : rteR n t = true) : chainB n t.1 = true ∧ 1 ≤ t.1.length ∧ t.1.length ≤ 4 ∧ matsB t.2 = true := by
  unfold rteR at h
  simpa only [Bool.and_eq_true, decide_eq_true_eq] using h
theorem names_of {rs : List R9} {t : T2} (h : rteR rs.length t = true) : ∀ v ∈ t.1.map fun k => (rs.getD k.toNat zR).nm.data.toList, ∃ r ∈ rs, v = r.nm.data.toList := by
  intro v hv
  obtain ⟨k, hk, rfl⟩ := List.mem_map.1 hv
  have := (chain_parts (rte_parts h).1).1 k hk
  exact ⟨_, mem_R rs k.toNat (by omega), rfl⟩
theorem rteW_plain {rs : List R9} {t : T2} (hr : ∀ r ∈ rs, rcvR r = true) (h : rteR rs.length t = true) : ∀ v ∈ rteW rs t, PlainW v := by
  intro v hv
  unfold rteW at hv
  rcases List.mem_cons.1 hv with rfl | hv
  · unfold PlainW; decide
  rcases List.mem_append.1 hv with hv | hv
  · obtain ⟨r, hm, rfl⟩ := names_of h v hv
    exact name_gt (rcv_parts (hr r hm)).1
  rcases List.mem_cons.1 hv with rfl | hv
  · unfold PlainW; decide
  · obtain ⟨m, hm, rfl⟩ := List.mem_map.1 hv
    exact ask_gt ((mats_all (rte_parts h).2.2.2).2 m hm)
theorem add_rte (rs : List R9) (ts : List T2) (a : Nat) (t : T2) (ha : a = 1 ∨ a = 2) (hr : ∀ r ∈ rs, rcvR r = true) (hd : (rs.map R9.nm).Nodup) (ht : rteR rs.length t = true) (hl : ts.length < 4) :
    addL (rs, ts, 0, 0) a (rteW rs t) = .ok ((rs, ts ++ [t], 0, 0), 2) := by
  unfold addL
  have e0 : (rteW rs t).getD 0 [] = rteT := rfl
  rw [e0, if_neg (fun h => absurd h.1 (by decide)), if_pos ⟨rfl, ha⟩]
  unfold addT
  rw [if_neg (by show ¬ ts.length = 4; omega)]
  have e1 : (rteW rs t).drop 1 = (t.1.map fun k => (rs.getD k.toNat zR).nm.data.toList) ++ ifT :: t.2.map askB := rfl
  rw [e1, ifW_word _ [] _ fun v hv e => by
    obtain ⟨r, hm, e2⟩ := names_of ht v hv
    have h2 := (rcv_parts (hr r hm)).2.1
    rw [← tx_of r.nm, ← e2, e] at h2
    exact h2 rfl]
  simp only [List.nil_append]
  unfold rteE
  have hc := (chain_parts (rte_parts ht).1).1
  rw [allO_map (γ := Unit) (placeO rs) (fun k : Int => (rs.getD k.toNat zR).nm.data.toList) t.1 fun k hk => by
    have := hc k hk
    rw [place_at hd k.toNat (by omega), Int.toNat_of_nonneg this.1]]
  simp only
  rw [allO_map (γ := Unit) askedB askB t.2 fun m hm => askedB_ask ((mats_all (rte_parts ht).2.2.2).2 m hm)]
  simp only
  rw [if_pos ht]
  rfl
theorem go_rtes : ∀ (l ts : List T2) (rs : List R9) (a i : Nat) (ls : List (List UInt8)), (a = 1 ∨ a = 2) → (∀ r ∈ rs, rcvR r = true) → (rs.map R9.nm).Nodup → (∀ t ∈ l, rteR rs.length t = true) → (ts ++ l).length ≤ 4 →
    goL (rs, ts, 0, 0) a i ((l.map (rteW rs)).map joinB ++ ls) = goL (rs, ts ++ l, 0, 0) (if l = [] then a else 2) (i + l.length) ls
  | [], ts, rs, a, i, ls, _, _, _, _, _ => by simp
  | t :: l, ts, rs, a, i, ls, ha, hr, hd, ht, hl => by
    have h1 := add_rte rs ts a t ha hr hd (ht t (by simp)) (by simp at hl; omega)
    rw [List.map_cons, List.map_cons, List.cons_append]
    have hp := rteW_plain hr (ht t (by simp))
    have e : rteW rs t = rteT :: ((t.1.map fun k => (rs.getD k.toNat zR).nm.data.toList) ++ ifT :: t.2.map askB) := rfl
    rw [e] at h1 hp ⊢
    rw [goL_words hp h1, go_rtes l (ts ++ [t]) rs 2 (i + 1) ls (.inr rfl) hr hd (fun x hx => ht x (by simp [hx])) (by simpa using hl)]
    have e3 : ts ++ [t] ++ l = ts ++ t :: l := by simp
    have e4 : i + 1 + l.length = i + (t :: l).length := by simp; omega
    rw [e3, e4, if_neg (by simp : ¬ t :: l = []), ite_self]
theorem one_digs {n : Int} (h : oftenB n = true) (v : List UInt8) : oneB [v, digsB n.toNat] = .ok n := by
  have hn := h
  unfold oftenB at hn
  simp only [Bool.and_eq_true, decide_eq_true_eq] at hn
  have e : ((n.toNat : Nat) : Int) = n := Int.toNat_of_nonneg (by omega)
  unfold oneB
  rw [if_neg (by simp)]
  have e1 : [v, digsB n.toNat].getD 1 [] = digsB n.toNat := rfl
  rw [e1, numB_digs n.toNat (by unfold topT; omega)]
  simp only
  rw [e, if_pos h]
theorem cfg_parts {c : CfgL} (h : cfgR c = true) : (∀ r ∈ c.1, rcvR r = true) ∧ (c.1.map R9.nm).Nodup ∧ (∀ t ∈ c.2.1, rteR c.1.length t = true) ∧ (1 ≤ c.1.length ∧ c.1.length ≤ 4) ∧ (1 ≤ c.2.1.length ∧ c.2.1.length ≤ 4) ∧ oftenB c.2.2.1 = true ∧ oftenB c.2.2.2 = true := by
  unfold cfgR numberB at h
  simp only [Bool.and_eq_true, decide_eq_true_eq, List.all_eq_true] at h
  obtain ⟨⟨h1, h2⟩, h3, h4, h5, h6, h7⟩ := h
  exact ⟨h1, h2, h3, h4, h5, h6, h7⟩
theorem cfgW_plain {c : CfgL} (h : cfgR c = true) : ∀ w ∈ cfgW c, ∀ v ∈ w, PlainW v := by
  obtain ⟨h1, h2, h3, _⟩ := cfg_parts h
  intro w hw
  unfold cfgW at hw
  rcases List.mem_append.1 hw with hw | hw
  · obtain ⟨r, hr, rfl⟩ := List.mem_map.1 hw
    exact rcvW_plain (h1 r hr)
  rcases List.mem_append.1 hw with hw | hw
  · obtain ⟨t, ht, rfl⟩ := List.mem_map.1 hw
    exact rteW_plain h1 (h3 t ht)
  rcases List.mem_cons.1 hw with rfl | hw
  · intro v hv
    rcases List.mem_cons.1 hv with rfl | hv
    · unfold PlainW; decide
    · rw [List.mem_singleton.1 hv]; exact digs_gt _
  · rw [List.mem_singleton.1 hw]
    intro v hv
    rcases List.mem_cons.1 hv with rfl | hv
    · unfold PlainW; decide
    · rw [List.mem_singleton.1 hv]; exact digs_gt _
theorem parseC_print {c : CfgL} (h : cfgR c = true) : parseC (printC c) = (c, 0, 0) := by
  have hp := cfgW_plain h
  obtain ⟨h1, h2, h3, h4, h5, h6, h7⟩ := cfg_parts h
  unfold parseC printC
  rw [lines_all _ fun w hw => by
    obtain ⟨x, hx, rfl⟩ := List.mem_map.1 hw
    exact join_line (hp x hx)]
  obtain ⟨rs, ts, rep, beat⟩ := c
  dsimp only at h1 h2 h3 h4 h5 h6 h7
  unfold cfgW
  rw [List.map_append, List.map_append]
  dsimp only
  rw [go_rcvs rs [] 0 0 _ (by omega) h1 (by simpa using h4.2) (by simpa using h2), List.nil_append, if_neg (by rintro rfl; simp at h4)]
  rw [go_rtes ts [] rs 1 _ _ (.inl rfl) h1 h2 h3 (by simpa using h5.2), List.nil_append, if_neg (by rintro rfl; simp at h5)]
  have pl : ∀ (n : Int) (v : List UInt8), PlainW v → ∀ u ∈ [v, digsB n.toNat], PlainW u := fun n v hv u hu => by
    rcases List.mem_cons.1 hu with rfl | hu
    · exact hv
    · rw [List.mem_singleton.1 hu]; exact digs_gt _
  have a1 : addL (rs, ts, 0, 0) 2 [repT, digsB rep.toNat] = .ok ((rs, ts, rep, 0), 3) := by
    unfold addL
    have e0 : [repT, digsB rep.toNat].getD 0 [] = repT := rfl
    rw [e0, if_neg (fun h => absurd h.1 (by decide)), if_neg (fun h => absurd h.1 (by decide)), if_pos ⟨rfl, rfl⟩, one_digs h6]
    rfl
  have a2 : addL (rs, ts, rep, 0) 3 [beatT, digsB beat.toNat] = .ok ((rs, ts, rep, beat), 4) := by
    unfold addL
    have e0 : [beatT, digsB beat.toNat].getD 0 [] = beatT := rfl
    rw [e0, if_neg (fun h => absurd h.1 (by decide)), if_neg (fun h => absurd h.1 (by decide)), if_neg (fun h => absurd h.1 (by decide)), if_pos ⟨rfl, rfl⟩, one_digs h7]
    rfl
  simp only [List.map_cons, List.map_nil]
  rw [goL_words (pl rep repT (by unfold PlainW; decide)) a1, goL_words (pl beat beatT (by unfold PlainW; decide)) a2, goL, if_pos rfl]
end Go.Proofs.YtbihaoibmkdfjaaGreatDoor
namespace Go.Proofs.YtbihaoibmkdfjaaGreatDoor
open Go.RowKit
set_option linter.unusedVariables false

/-- what has been read so far may go on -/
def InvC (c : CfgL) (a : Nat) : Prop := ((∀ r ∈ c.1, rcvR r = true) ∧ (c.1.map R9.nm).Nodup ∧ c.1.length ≤ 4) ∧ ((∀ t ∈ c.2.1, rteR c.1.length t = true) ∧ c.2.1.length ≤ 4) ∧ (a ≤ 1 → c.2.1 = []) ∧ (1 ≤ a → 1 ≤ c.1.length) ∧ (2 ≤ a → 1 ≤ c.2.1.length) ∧ (3 ≤ a → oftenB c.2.2.1 = true) ∧ (4 ≤ a → oftenB c.2.2.2 = true)
theorem inv_zero : InvC zC 0 := ⟨⟨fun r h => (by cases h), List.nodup_nil, by simp⟩, ⟨fun t h => (by cases h), by simp⟩, fun _ => rfl, fun h => absurd h (by omega), fun h => absurd h (by omega), fun h => absurd h (by omega), fun h => absurd h (by omega)⟩
theorem addR_ok {c c' : CfgL} {w : List (List UInt8)} (h : addR c w = .ok c') : ∃ r, rcvR r = true ∧ c.1.length ≠ 4 ∧ r.nm ∉ c.1.map R9.nm ∧ c' = (c.1 ++ [r], c.2) := by
  unfold addR at h
  split at h
  · cases h
  rename_i h4
  split at h
  · cases h
  split at h
  · cases h
  rename_i hp
  split at h
  · cases h
  rename_i n hn
  split at h
  · rename_i hr
    cases h
    refine ⟨_, hr, h4, ?_, rfl⟩
    intro hm
    obtain ⟨x, hx, e⟩ := List.mem_map.1 hm
    apply hp
    have e2 : x.nm = tx (w.getD 1 []) := e
    unfold placeO
    cases hf : c.1.findIdx? fun r => decide (r.nm = tx (w.getD 1 [])) with
    | none =>
      have := (List.findIdx?_eq_none_iff.1 hf) x hx
      simp [e2] at this
    | some k => rfl
  · cases h
theorem addT_ok {c c' : CfgL} {w : List (List UInt8)} (h : addT c w = .ok c') : ∃ t, rteR c.1.length t = true ∧ c.2.1.length ≠ 4 ∧ c' = (c.1, c.2.1 ++ [t], c.2.2) := by
  unfold addT at h
  split at h
  · cases h
  rename_i h4
  split at h
  · cases h
  rename_i names asks hi
  unfold rteE at h
  split at h
  · cases h
  rename_i ch hch
  split at h
  · cases h
  rename_i ms hms
  split at h
  · rename_i hr
    cases h
    exact ⟨(ch, ms), hr, h4, rfl⟩
  · cases h
theorem oneB_ok {w : List (List UInt8)} {n : Int} (h : oneB w = .ok n) : oftenB n = true := by
  unfold oneB at h
  split at h
  · cases h
  split at h
  · cases h
  split at h
  · cases h; assumption
  · cases h
theorem map_ok {α β : Type} {x : Except Int α} {f : α → β} {b : β} (h : x.map f = .ok b) : ∃ a, x = .ok a ∧ b = f a := by
  cases x with
  | error e => cases h
  | ok a => cases h; exact ⟨a, rfl, rfl⟩
theorem inv_step {c c' : CfgL} {a a' : Nat} {w : List (List UInt8)} (hI : InvC c a) (h : addL c a w = .ok (c', a')) : InvC c' a' ∧ a' ≤ 4 ∧ 1 ≤ a' := by
  obtain ⟨⟨i1, i2, i3⟩, ⟨i4, i5⟩, i6, i7, i8, i9, i10⟩ := hI
  unfold addL at h
  split at h
  · rename_i hc
    obtain ⟨x, hx, e⟩ := map_ok h
    obtain ⟨r, hr, h4, hn, rfl⟩ := addR_ok hx
    cases e
    have i6 := i6 hc.2
    refine ⟨⟨⟨?_, ?_, by simp; omega⟩, ⟨?_, by dsimp only; omega⟩, fun _ => i6, fun _ => by simp, fun h => absurd h (by omega), fun h => absurd h (by omega), fun h => absurd h (by omega)⟩, by omega, by omega⟩
    · intro y hy
      rcases List.mem_append.1 hy with hy | hy
      · exact i1 y hy
      · rw [List.mem_singleton.1 hy]; exact hr
    · rw [List.map_append]
      refine List.nodup_append.2 ⟨i2, by simp, fun y hy z hz => ?_⟩
      simp at hz
      subst hz
      intro e
      subst e
      exact hn hy
    · intro t ht
      rw [i6] at ht
      cases ht
  split at h
  · rename_i hc
    obtain ⟨x, hx, e⟩ := map_ok h
    obtain ⟨t, ht, h4, rfl⟩ := addT_ok hx
    cases e
    have i7 := i7 (by omega)
    refine ⟨⟨⟨i1, i2, i3⟩, ⟨?_, by simp; omega⟩, fun h => absurd h (by omega), fun _ => i7, fun _ => by simp, fun h => absurd h (by omega), fun h => absurd h (by omega)⟩, by omega, by omega⟩
    intro y hy
    rcases List.mem_append.1 hy with hy | hy
    · exact i4 y hy
    · rw [List.mem_singleton.1 hy]; exact ht
  split at h
  · rename_i hc
    obtain ⟨n, hx, e⟩ := map_ok h
    have hn := oneB_ok hx
    cases e
    exact ⟨⟨⟨i1, i2, i3⟩, ⟨i4, i5⟩, fun h => absurd h (by omega), fun _ => i7 (by omega), fun _ => i8 (by omega), fun _ => hn, fun h => absurd h (by omega)⟩, by omega, by omega⟩
  split at h
  · rename_i hc
    obtain ⟨n, hx, e⟩ := map_ok h
    have hn := oneB_ok hx
    cases e
    exact ⟨⟨⟨i1, i2, i3⟩, ⟨i4, i5⟩, fun h => absurd h (by omega), fun _ => i7 (by omega), fun _ => i8 (by omega), fun _ => i9 (by omega), fun _ => hn⟩, by omega, by omega⟩
  · cases h
theorem inv_right {c : CfgL} (h : InvC c 4) : cfgR c = true := by
  obtain ⟨⟨i1, i2, i3⟩, ⟨i4, i5⟩, i6, i7, i8, i9, i10⟩ := h
  have i7 := i7 (by omega)
  have i8 := i8 (by omega)
  unfold cfgR numberB
  rw [i9 (by omega), i10 (by omega)]
  simp only [Bool.and_eq_true, decide_eq_true_eq, List.all_eq_true, and_true]
  exact ⟨⟨i1, i2⟩, i4, ⟨i7, i3⟩, i8, i5⟩
theorem map_err {α β : Type} {x : Except Int α} {f : α → β} {e : Int} (h : x.map f = .error e) : x = .error e := by
  cases x with
  | error e' => cases h; rfl
  | ok a => cases h
theorem addL_ne {c : CfgL} {a : Nat} {w : List (List UInt8)} {e : Int} (h : addL c a w = .error e) : e ≠ 0 := by
  unfold addL at h
  split at h
  · have h := map_err h
    unfold addR at h
    repeat' split at h
    all_goals first | (cases h; done) | (cases h; decide)
  split at h
  · have h := map_err h
    unfold addT rteE at h
    repeat' split at h
    all_goals first | (cases h; done) | (cases h; decide)
  split at h
  · have h := map_err h
    unfold oneB at h
    repeat' split at h
    all_goals first | (cases h; done) | (cases h; decide)
  split at h
  · have h := map_err h
    unfold oneB at h
    repeat' split at h
    all_goals first | (cases h; done) | (cases h; decide)
  · cases h; decide
theorem goL_right : ∀ (ls : List (List UInt8)) {c c' : CfgL} {a i n : Nat}, InvC c a → goL c a i ls = (c', n, 0) → cfgR c' = true ∧ n = 0
  | [], c, c', a, i, n, hI, h => by
    rw [goL] at h
    split at h
    · rename_i h4
      subst h4
      cases h
      exact ⟨inv_right hI, rfl⟩
    · exact absurd (congrArg (fun x : CfgL × Nat × Int => x.2.2) h) (by simp)
  | l :: ls, c, c', a, i, n, hI, h => by
    rw [goL] at h
    split at h
    · rename_i e he
      have : e = 0 := congrArg (fun x : CfgL × Nat × Int => x.2.2) h
      exact absurd this (addL_ne he)
    · rename_i c2 a2 he
      exact goL_right ls (inv_step hI he).1 h
theorem parseC_right {l : List UInt8} {c : CfgL} {n : Nat} (h : parseC l = (c, n, 0)) : cfgR c = true ∧ n = 0 := goL_right _ inv_zero h
theorem goL_not : ∀ (ls : List (List UInt8)) {c : CfgL} {a i : Nat}, (goL c a i ls).2.2 ≠ 0 → (goL c a i ls).1 = zC
  | [], c, a, i, h => by
    rw [goL] at h ⊢
    split at h
    · exact absurd rfl h
    · rename_i h4
      rw [if_neg h4]
  | l :: ls, c, a, i, h => by
    rw [goL] at h ⊢
    split at h
    · rfl
    · exact goL_not ls h
theorem parseC_not {l : List UInt8} (h : (parseC l).2.2 ≠ 0) : (parseC l).1 = zC := goL_not _ h
/-- the line that is told is one of these, or the next one -/
theorem goL_line : ∀ (ls : List (List UInt8)) {c : CfgL} {a i : Nat}, (goL c a i ls).2.2 ≠ 0 → i ≤ (goL c a i ls).2.1 ∧ (goL c a i ls).2.1 ≤ i + ls.length
  | [], c, a, i, h => by
    rw [goL] at h ⊢
    split at h
    · exact absurd rfl h
    · rename_i h4
      rw [if_neg h4]
      simp
  | l :: ls, c, a, i, h => by
    rw [goL] at h ⊢
    split at h
    · simp
    · have := goL_line ls h
      simp only [List.length_cons]
      omega
/-- behind a config that is whole no line may come -/
theorem goL_whole : ∀ (ls ms : List (List UInt8)) {c c' : CfgL} {a i n : Nat}, goL c a i ls = (c', n, 0) → goL c a i (ls ++ ms) = if ms = [] then (c', n, 0) else (zC, i + ls.length, 10)
  | [], ms, c, c', a, i, n, h => by
    rw [goL] at h
    split at h
    · rename_i h4
      subst h4
      cases h
      rw [List.nil_append]
      cases ms with
      | nil => rw [goL, if_pos rfl, if_pos rfl]
      | cons m ms =>
        rw [goL_error (e := 10) (by unfold addL; rw [if_neg (by omega), if_neg (by omega), if_neg (by omega), if_neg (by omega)]), if_neg (by simp)]
        rfl
    · exact absurd (congrArg (fun x : CfgL × Nat × Int => x.2.2) h) (by simp)
  | l :: ls, ms, c, c', a, i, n, h => by
    rw [List.cons_append]
    rw [goL] at h ⊢
    split at h
    · rename_i e he
      have : e = 0 := congrArg (fun x : CfgL × Nat × Int => x.2.2) h
      exact absurd this (addL_ne he)
    · rename_i c2 a2 he
      try simp only
      rw [goL_whole ls ms h]
      have e4 : i + 1 + ls.length = i + (l :: ls).length := by simp; omega
      rw [e4]
theorem goL_first : ∀ (ls ms : List (List UInt8)) {c : CfgL} {a i : Nat}, (goL c a i ls).2.2 ≠ 0 → (goL c a i ls).2.1 ≠ i + ls.length → goL c a i (ls ++ ms) = goL c a i ls
  | [], ms, c, a, i, h, hn => by
    rw [goL] at h hn
    split at h
    · exact absurd rfl h
    · rename_i h4
      rw [if_neg h4] at hn
      simp at hn
  | l :: ls, ms, c, a, i, h, hn => by
    rw [List.cons_append]
    rw [goL] at h hn ⊢
    rw [goL]
    split at h
    · rfl
    · rename_i c2 a2 he
      rw [he] at hn
      try simp only at hn
      exact goL_first ls ms h (by simp only [List.length_cons] at hn; omega)
end Go.Proofs.YtbihaoibmkdfjaaGreatDoor
