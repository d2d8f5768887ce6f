/-
  Records: which may be, their bytes, and what any bytes would be a record of: plain.
-/
import Derived.Test.YtopjiokbmpghjaaTxt
import Derived.Test.YtopjiokbmpghjaaLabD
import Derived.Test.YtopjiokbmpghjaaLabN
import Derived.Test.YtopjiokbmpghjaaLibX
namespace Go.Proofs.Ytopjiokbmpghjaa
open Go.RowKit
set_option linter.unusedVariables false

/-- a duty: its labels and five numbers -/
structure D6 where
  ls : List L2
  rt : Int
  pl : Int
  tr : Int
  du : Int
  st : Int
instance : DecidableEq D6 := fun a b => decidable_of_iff (a.ls = b.ls ∧ a.rt = b.rt ∧ a.pl = b.pl ∧ a.tr = b.tr ∧ a.du = b.du ∧ a.st = b.st) ⟨fun h => by
  obtain ⟨a1, a2, a3, a4, a5, a6⟩ := a
  obtain ⟨b1, b2, b3, b4, b5, b6⟩ := b
  obtain ⟨h1, h2, h3, h4, h5, h6⟩ := h
  dsimp only at *
  subst h1 h2 h3 h4 h5 h6
  rfl, fun h => by subst h; exact ⟨rfl, rfl, rfl, rfl, rfl, rfl⟩⟩
abbrev zD : D6 := ⟨[], 0, 0, 0, 0, 0⟩
abbrev dV (v : Value) (d : D6) : Array Value := #[v, .int .i64 d.rt, .int .i64 d.pl, .int .i64 d.tr, .int .i64 d.du, .int .i64 d.st]
abbrev aggD (oa : Option Addr) (n cap : Nat) (d : D6) : Value := .agg (dV (.slice oa n cap) d)
/-- a record: its kind, a duty, labels, and a hush's times and matchers -/
structure Rc where
  k : Int
  d : D6
  l : List L2
  f : Int
  t : Int
  a : List M3
instance : DecidableEq Rc := fun a b => decidable_of_iff (a.k = b.k ∧ a.d = b.d ∧ a.l = b.l ∧ a.f = b.f ∧ a.t = b.t ∧ a.a = b.a) ⟨fun h => by
  obtain ⟨a1, a2, a3, a4, a5, a6⟩ := a
  obtain ⟨b1, b2, b3, b4, b5, b6⟩ := b
  obtain ⟨h1, h2, h3, h4, h5, h6⟩ := h
  dsimp only at *
  subst h1 h2 h3 h4 h5 h6
  rfl, fun h => by subst h; exact ⟨rfl, rfl, rfl, rfl, rfl, rfl⟩⟩
abbrev zRc : Rc := ⟨0, zD, [], 0, 0, []⟩
def hushR (f t : Int) (ms : List M3) : Bool := timeB f && (timeB t && (decide (f < t) && (decide (1 ≤ ms.length) && matsB ms)))
/-- may a duty be, in a record -/
def dutyB (d : D6) : Bool := rightB d.ls && (decide (0 ≤ d.rt) && (decide (d.rt ≤ 3) && (decide (0 ≤ d.pl) && (decide (d.pl ≤ 3) && (decide (0 ≤ d.tr) && (decide (d.tr ≤ 99) && (timeB d.du && (decide (1 ≤ d.st) && decide (d.st ≤ 3)))))))))
def noHushB (r : Rc) : Bool := decide (r.f = 0) && (decide (r.t = 0) && decide (r.a = []))
def recR (r : Rc) : Bool :=
  if r.k = 1 then dutyB r.d && (decide (r.l = []) && noHushB r)
  else if r.k = 2 then rightB r.l && (decide (r.d = zD) && noHushB r)
  else if r.k = 3 then hushR r.f r.t r.a && (decide (r.d = zD) && decide (r.l = []))
  else false

/-- bytes -/
def b1 (n : Int) : UInt8 := UInt8.ofNat n.toNat
def six (t : Int) : List UInt8 := [b1 (t / 1099511627776 % 256), b1 (t / 4294967296 % 256), b1 (t / 16777216 % 256), b1 (t / 65536 % 256), b1 (t / 256 % 256), b1 (t % 256)]
def txtL (s : ByteArray) : List UInt8 := UInt8.ofNat s.size :: s.data.toList
def labL (x : L2) : List UInt8 := txtL x.1 ++ txtL x.2
def rowL (l : List L2) : List UInt8 := UInt8.ofNat l.length :: l.flatMap labL
def matL (m : M3) : List UInt8 := b1 m.1 :: (txtL m.2.1 ++ txtL m.2.2)
def askL (a : List M3) : List UInt8 := UInt8.ofNat a.length :: a.flatMap matL
def putL (r : Rc) : List UInt8 :=
  if r.k = 2 then 2 :: rowL r.l
  else if r.k = 1 then 1 :: b1 r.d.rt :: b1 r.d.pl :: b1 r.d.tr :: b1 r.d.st :: (six r.d.du ++ rowL r.d.ls)
  else 3 :: (six r.f ++ (six r.t ++ askL r.a))

/-- what a text would be, if it is put so -/
def atN (s : List UInt8) (i : Nat) : Nat := (s.getD i 0).toNat
def timeN (s : List UInt8) (i : Nat) : Nat := 256 * (256 * (256 * (256 * (256 * (256 * 0 + atN s i) + atN s (i + 1)) + atN s (i + 2)) + atN s (i + 3)) + atN s (i + 4)) + atN s (i + 5)
def endN (s : List UInt8) (i : Nat) : Nat := min (i + 1 + atN s i) s.length
def wordN (s : List UInt8) (i : Nat) : List UInt8 × Nat := if endN s i ≤ i + 1 then ([], i + 1) else ((s.take (endN s i)).drop (i + 1), endN s i)
def someN (s : List UInt8) : Nat → Nat → List L2
  | 0, _ => []
  | n + 1, i => if i < s.length then (tx (wordN s i).1, tx (wordN s (wordN s i).2).1) :: someN s n (wordN s (wordN s i).2).2 else []
def askedN (s : List UInt8) : Nat → Nat → List M3
  | 0, _ => []
  | n + 1, i => if i < s.length then ((atN s i : Int), tx (wordN s (i + 1)).1, tx (wordN s (wordN s (i + 1)).2).1) :: askedN s n (wordN s (wordN s (i + 1)).2).2 else []
def parseN (s : List UInt8) : Rc :=
  if atN s 0 = 1 then ⟨1, ⟨someN s (atN s 11) 12, atN s 1, atN s 2, atN s 3, timeN s 5, atN s 4⟩, [], 0, 0, []⟩
  else if atN s 0 = 2 then ⟨2, zD, someN s (atN s 1) 2, 0, 0, []⟩
  else if atN s 0 = 3 then ⟨3, zD, [], timeN s 1, timeN s 7, askedN s (atN s 13) 14⟩
  else ⟨(atN s 0 : Int), zD, [], 0, 0, []⟩
/-- the record of a text -/
def getF (s : List UInt8) : Option Rc := if recR (parseN s) = true ∧ putL (parseN s) = s then some (parseN s) else none

theorem b1_nat {n : Int} (h0 : 0 ≤ n) (h1 : n ≤ 255) : ((b1 n).toNat : Int) = n := by
  unfold b1
  rw [UInt8.toNat_ofNat']
  omega
theorem of_nat {n : Nat} (h : n ≤ 255) : (UInt8.ofNat n).toNat = n := by
  rw [UInt8.toNat_ofNat']
  omega
theorem at_drop {s q : List UInt8} {i : Nat} {c : UInt8} (h : s.drop i = c :: q) : atN s i = c.toNat ∧ s.drop (i + 1) = q ∧ i < s.length := by
  have hi : i < s.length := by
    rcases Nat.lt_or_ge i s.length with h1 | h1
    · exact h1
    · rw [List.drop_of_length_le h1] at h
      cases h
  rw [List.drop_eq_getElem_cons hi] at h
  simp only [List.cons.injEq] at h
  refine ⟨?_, h.2, hi⟩
  unfold atN
  rw [List.getD_eq_getElem?_getD, List.getElem?_eq_getElem hi]
  simp [h.1]
theorem six_drop {s q : List UInt8} {i : Nat} {t : Int} (h : s.drop i = six t ++ q) (h0 : 0 ≤ t) (h1 : t ≤ 1099511627776) : ((timeN s i : Nat) : Int) = t ∧ s.drop (i + 6) = q := by
  unfold six at h
  simp only [List.cons_append, List.nil_append] at h
  obtain ⟨a0, d0, _⟩ := at_drop h
  obtain ⟨a1, d1, _⟩ := at_drop d0
  obtain ⟨a2, d2, _⟩ := at_drop d1
  obtain ⟨a3, d3, _⟩ := at_drop d2
  obtain ⟨a4, d4, _⟩ := at_drop d3
  obtain ⟨a5, d5, _⟩ := at_drop d4
  refine ⟨?_, d5⟩
  unfold timeN
  rw [a0, a1, a2, a3, a4, a5]
  have k0 := b1_nat (n := t / 1099511627776 % 256) (by omega) (by omega)
  have k1 := b1_nat (n := t / 4294967296 % 256) (by omega) (by omega)
  have k2 := b1_nat (n := t / 16777216 % 256) (by omega) (by omega)
  have k3 := b1_nat (n := t / 65536 % 256) (by omega) (by omega)
  have k4 := b1_nat (n := t / 256 % 256) (by omega) (by omega)
  have k5 := b1_nat (n := t % 256) (by omega) (by omega)
  omega
theorem word_drop {s q : List UInt8} {i : Nat} {t : ByteArray} (h : s.drop i = txtL t ++ q) (ht : t.size ≤ 255) : wordN s i = (t.data.toList, i + 1 + t.size) ∧ s.drop (i + 1 + t.size) = q ∧ i < s.length := by
  unfold txtL at h
  rw [List.cons_append] at h
  obtain ⟨a0, d0, hi⟩ := at_drop h
  rw [of_nat ht] at a0
  have hsz : t.data.toList.length = t.size := by unfold ByteArray.size; simp
  have hlen : s.length = i + 1 + t.size + q.length := by
    have := congrArg List.length d0
    rw [List.length_drop, List.length_append, hsz] at this
    omega
  have hd : s.drop (i + 1 + t.size) = q := by
    rw [← List.drop_drop, d0, ← hsz, List.drop_left]
  have he : endN s i = i + 1 + t.size := by unfold endN; rw [a0]; omega
  refine ⟨?_, hd, hi⟩
  unfold wordN
  rw [he]
  by_cases h0 : t.size = 0
  · rw [if_pos (by omega)]
    have : t.data.toList = [] := List.eq_nil_of_length_eq_zero (by omega)
    rw [this, h0]
  · rw [if_neg (by omega)]
    refine Prod.ext ?_ rfl
    show (s.take (i + 1 + t.size)).drop (i + 1) = _
    rw [List.drop_take, d0, show i + 1 + t.size - (i + 1) = t.data.toList.length by omega, List.take_left]
def Short (l : List L2) : Prop := ∀ x ∈ l, x.1.size ≤ 255 ∧ x.2.size ≤ 255
def ShortA (l : List M3) : Prop := ∀ x ∈ l, 0 ≤ x.1 ∧ x.1 ≤ 255 ∧ x.2.1.size ≤ 255 ∧ x.2.2.size ≤ 255
theorem labL_app (x : L2) (q : List UInt8) : labL x ++ q = txtL x.1 ++ (txtL x.2 ++ q) := by unfold labL; rw [List.append_assoc]
theorem matL_app (m : M3) (q : List UInt8) : matL m ++ q = b1 m.1 :: (txtL m.2.1 ++ (txtL m.2.2 ++ q)) := by unfold matL; rw [List.cons_append, List.append_assoc]
theorem some_drop {s : List UInt8} : ∀ (l : List L2) (i : Nat) (q : List UInt8), s.drop i = l.flatMap labL ++ q → Short l → someN s l.length i = l
  | [], _, _, _, _ => rfl
  | x :: l, i, q, h, hs => by
    obtain ⟨h1, h2⟩ := hs x (by simp)
    rw [List.flatMap_cons] at h
    rw [List.append_assoc, labL_app] at h
    obtain ⟨w1, d1, hi⟩ := word_drop h h1
    obtain ⟨w2, d2, _⟩ := word_drop d1 h2
    rw [List.length_cons, someN, if_pos hi, w1]
    simp only
    rw [w2]
    simp only
    have := some_drop l _ q d2 (fun y hy => hs y (by simp [hy]))
    rw [this, tx_of, tx_of]
theorem asked_drop {s : List UInt8} : ∀ (l : List M3) (i : Nat) (q : List UInt8), s.drop i = l.flatMap matL ++ q → ShortA l → askedN s l.length i = l
  | [], _, _, _, _ => rfl
  | x :: l, i, q, h, hs => by
    obtain ⟨h0, h00, h1, h2⟩ := hs x (by simp)
    rw [List.flatMap_cons] at h
    rw [List.append_assoc, matL_app] at h
    obtain ⟨a0, d0, hi⟩ := at_drop h
    obtain ⟨w1, d1, _⟩ := word_drop d0 h1
    obtain ⟨w2, d2, _⟩ := word_drop d1 h2
    rw [List.length_cons, askedN, if_pos hi, w1]
    simp only
    rw [w2]
    simp only
    have := asked_drop l _ q d2 (fun y hy => hs y (by simp [hy]))
    rw [this, tx_of, tx_of, a0, b1_nat h0 h00]
theorem row_drop {s q : List UInt8} {l : List L2} {i : Nat} (h : s.drop i = rowL l ++ q) (hs : Short l) (hl : l.length ≤ 255) : someN s (atN s i) (i + 1) = l := by
  unfold rowL at h
  rw [List.cons_append] at h
  obtain ⟨a0, d0, _⟩ := at_drop h
  rw [a0, of_nat hl]
  exact some_drop l _ q d0 hs
theorem ask_drop {s q : List UInt8} {l : List M3} {i : Nat} (h : s.drop i = askL l ++ q) (hs : ShortA l) (hl : l.length ≤ 255) : askedN s (atN s i) (i + 1) = l := by
  unfold askL at h
  rw [List.cons_append] at h
  obtain ⟨a0, d0, _⟩ := at_drop h
  rw [a0, of_nat hl]
  exact asked_drop l _ q d0 hs

theorem name_short {s : ByteArray} (h : nameB s = true) : s.size ≤ 8 := by
  unfold nameB shortB at h
  simp only [Bool.and_eq_true, decide_eq_true_eq] at h
  omega
theorem value_short {s : ByteArray} (h : valueB s = true) : s.size ≤ 8 := by
  unfold valueB shortB at h
  simp only [Bool.and_eq_true, decide_eq_true_eq] at h
  omega
theorem right_short {l : List L2} (h : rightB l = true) : (∀ x ∈ l, x.1.size ≤ 8 ∧ x.2.size ≤ 8) ∧ l.length ≤ 3 := by
  unfold rightB posB at h
  simp only [Bool.and_eq_true, decide_eq_true_eq, Bool.not_eq_true'] at h
  refine ⟨fun x hx => ?_, h.1.1.2⟩
  have h2 := List.any_eq_false.1 h.1.2 x hx
  unfold noneB at h2
  simp only [Bool.or_eq_true, Bool.not_eq_true', not_or, Bool.not_eq_false] at h2
  exact ⟨name_short h2.1, value_short h2.2⟩
theorem mats_short {l : List M3} (h : matsB l = true) : (∀ x ∈ l, 0 ≤ x.1 ∧ x.1 ≤ 3 ∧ x.2.1.size ≤ 8 ∧ x.2.2.size ≤ 8) ∧ l.length ≤ 4 := by
  unfold matsB at h
  simp only [Bool.and_eq_true, decide_eq_true_eq, Bool.not_eq_true'] at h
  refine ⟨fun x hx => ?_, h.1⟩
  have h2 := List.any_eq_false.1 h.2 x hx
  simp only [Bool.not_eq_true', Bool.not_eq_false] at h2
  unfold matB at h2
  simp only [Bool.and_eq_true, decide_eq_true_eq] at h2
  exact ⟨h2.1.1.1.1, h2.1.1.1.2, name_short h2.1.1.2, value_short h2.1.2⟩
theorem timeB_iff (t : Int) : timeB t = true ↔ 0 ≤ t ∧ t ≤ 1099511627776 := by unfold timeB; simp
theorem dutyB_iff (d : D6) : dutyB d = true ↔ rightB d.ls = true ∧ 0 ≤ d.rt ∧ d.rt ≤ 3 ∧ 0 ≤ d.pl ∧ d.pl ≤ 3 ∧ 0 ≤ d.tr ∧ d.tr ≤ 99 ∧ timeB d.du = true ∧ 1 ≤ d.st ∧ d.st ≤ 3 := by
  unfold dutyB
  simp only [Bool.and_eq_true, decide_eq_true_eq]
theorem hushR_iff (f t : Int) (a : List M3) : hushR f t a = true ↔ timeB f = true ∧ timeB t = true ∧ f < t ∧ 1 ≤ a.length ∧ matsB a = true := by
  unfold hushR
  simp only [Bool.and_eq_true, decide_eq_true_eq]
theorem noHushB_iff (r : Rc) : noHushB r = true ↔ r.f = 0 ∧ r.t = 0 ∧ r.a = [] := by
  unfold noHushB
  simp only [Bool.and_eq_true, decide_eq_true_eq]
/-- the three kinds of records that may be -/
theorem recR_cases {r : Rc} (h : recR r = true) : (∃ d, dutyB d = true ∧ r = ⟨1, d, [], 0, 0, []⟩) ∨ (∃ l, rightB l = true ∧ r = ⟨2, zD, l, 0, 0, []⟩) ∨ (∃ f t a, hushR f t a = true ∧ r = ⟨3, zD, [], f, t, a⟩) := by
  obtain ⟨k, d, l, f, t, a⟩ := r
  unfold recR at h
  dsimp only at h
  by_cases h1 : k = 1
  · subst h1
    rw [if_pos rfl, Bool.and_eq_true, Bool.and_eq_true, noHushB_iff, decide_eq_true_eq] at h
    obtain ⟨h1, rfl, rfl, rfl, rfl⟩ := h
    exact .inl ⟨d, h1, rfl⟩
  · rw [if_neg h1] at h
    by_cases h2 : k = 2
    · subst h2
      rw [if_pos rfl, Bool.and_eq_true, Bool.and_eq_true, noHushB_iff, decide_eq_true_eq] at h
      obtain ⟨h1, rfl, rfl, rfl, rfl⟩ := h
      exact .inr (.inl ⟨l, h1, rfl⟩)
    · rw [if_neg h2] at h
      by_cases h3 : k = 3
      · subst h3
        rw [if_pos rfl, Bool.and_eq_true, Bool.and_eq_true, decide_eq_true_eq, decide_eq_true_eq] at h
        obtain ⟨h1, rfl, rfl⟩ := h
        exact .inr (.inr ⟨f, t, a, h1, rfl⟩)
      · rw [if_neg h3] at h
        cases h
theorem putL_duty (d : D6) : putL ⟨1, d, [], 0, 0, []⟩ = 1 :: b1 d.rt :: b1 d.pl :: b1 d.tr :: b1 d.st :: (six d.du ++ rowL d.ls) := rfl
theorem putL_gone (l : List L2) : putL ⟨2, zD, l, 0, 0, []⟩ = 2 :: rowL l := rfl
theorem putL_hush (f t : Int) (a : List M3) : putL ⟨3, zD, [], f, t, a⟩ = 3 :: (six f ++ (six t ++ askL a)) := rfl
/-- what is put is got as it was -/
theorem parse_put {r : Rc} (h : recR r = true) : parseN (putL r) = r := by
  rcases recR_cases h with ⟨d, hd, rfl⟩ | ⟨l, hl, rfl⟩ | ⟨f, t, a, hh, rfl⟩
  · obtain ⟨g1, g2, g3, g4, g5, g6, g7, g8, g9, g10⟩ := (dutyB_iff d).1 hd
    obtain ⟨s1, s2⟩ := right_short g1
    obtain ⟨t1, t2⟩ := (timeB_iff _).1 g8
    have h0 : (putL ⟨1, d, [], 0, 0, []⟩).drop 0 = 1 :: b1 d.rt :: b1 d.pl :: b1 d.tr :: b1 d.st :: (six d.du ++ (rowL d.ls ++ [])) := by rw [putL_duty, List.append_nil]; rfl
    obtain ⟨a0, d0, _⟩ := at_drop h0
    obtain ⟨a1, d1, _⟩ := at_drop d0
    obtain ⟨a2, d2, _⟩ := at_drop d1
    obtain ⟨a3, d3, _⟩ := at_drop d2
    obtain ⟨a4, d4, _⟩ := at_drop d3
    obtain ⟨a5, d5⟩ := six_drop d4 t1 t2
    have a6 := row_drop d5 (fun x hx => by have := s1 x hx; omega) (by omega)
    generalize putL ⟨1, d, [], 0, 0, []⟩ = s at *
    have e0 : atN s 0 = 1 := by rw [a0]; rfl
    unfold parseN
    rw [if_pos e0]
    obtain ⟨ls, rt, pl, tr, du, st⟩ := d
    dsimp only at *
    rw [a6, a1, a2, a3, a4, a5, b1_nat g2 (by omega), b1_nat g4 (by omega), b1_nat g6 (by omega), b1_nat (by omega) (by omega)]
  · obtain ⟨s1, s2⟩ := right_short hl
    have h0 : (putL ⟨2, zD, l, 0, 0, []⟩).drop 0 = 2 :: (rowL l ++ []) := by rw [putL_gone, List.append_nil]; rfl
    obtain ⟨a0, d0, _⟩ := at_drop h0
    have a6 := row_drop d0 (fun x hx => by have := s1 x hx; omega) (by omega)
    generalize putL ⟨2, zD, l, 0, 0, []⟩ = s at *
    have e0 : atN s 0 = 2 := by rw [a0]; rfl
    unfold parseN
    rw [if_neg (by omega), if_pos e0, a6]
  · obtain ⟨g1, g2, g3, g4, g5⟩ := (hushR_iff f t a).1 hh
    obtain ⟨s1, s2⟩ := mats_short g5
    obtain ⟨t1, t2⟩ := (timeB_iff _).1 g1
    obtain ⟨t3, t4⟩ := (timeB_iff _).1 g2
    have h0 : (putL ⟨3, zD, [], f, t, a⟩).drop 0 = 3 :: (six f ++ (six t ++ (askL a ++ []))) := by rw [putL_hush, List.append_nil]; rfl
    obtain ⟨a0, d0, _⟩ := at_drop h0
    obtain ⟨a1, d1⟩ := six_drop d0 t1 t2
    obtain ⟨a2, d2⟩ := six_drop d1 t3 t4
    have a6 := ask_drop d2 (fun x hx => by have := s1 x hx; omega) (by omega)
    generalize putL ⟨3, zD, [], f, t, a⟩ = s at *
    have e0 : atN s 0 = 3 := by rw [a0]; rfl
    unfold parseN
    rw [if_neg (by omega), if_neg (by omega), if_pos e0, a6, a1, a2]
theorem getF_put {r : Rc} (h : recR r = true) : getF (putL r) = some r := by
  unfold getF
  rw [parse_put h, if_pos ⟨h, rfl⟩]
theorem getF_some {s : List UInt8} {r : Rc} (h : getF s = some r) : recR r = true ∧ putL r = s := by
  unfold getF at h
  split at h
  · rename_i h1
    simp only [Option.some.injEq] at h
    subst h
    exact h1
  · cases h
theorem getF_none {s : List UInt8} (h : getF s = none) (r : Rc) (hr : recR r = true) : putL r ≠ s := fun e => by
  rw [← e, getF_put hr] at h
  cases h
theorem put_inj {a b : Rc} (ha : recR a = true) (hb : recR b = true) (h : putL a = putL b) : a = b := by
  rw [← parse_put ha, h, parse_put hb]
theorem txtL_len (s : ByteArray) : (txtL s).length = s.size + 1 := by unfold txtL ByteArray.size; simp
theorem row_len : ∀ (l : List L2), (∀ x ∈ l, x.1.size ≤ 8 ∧ x.2.size ≤ 8) → (l.flatMap labL).length ≤ 18 * l.length
  | [], _ => by simp
  | x :: l, h => by
    have h1 := h x (by simp)
    have := row_len l (fun y hy => h y (by simp [hy]))
    rw [List.flatMap_cons, List.length_append, List.length_cons]
    unfold labL at *
    rw [List.length_append, txtL_len, txtL_len]
    omega
theorem ask_len : ∀ (l : List M3), (∀ x ∈ l, 0 ≤ x.1 ∧ x.1 ≤ 3 ∧ x.2.1.size ≤ 8 ∧ x.2.2.size ≤ 8) → (l.flatMap matL).length ≤ 19 * l.length
  | [], _ => by simp
  | x :: l, h => by
    have h1 := h x (by simp)
    have := ask_len l (fun y hy => h y (by simp [hy]))
    rw [List.flatMap_cons, List.length_append, List.length_cons]
    unfold matL at *
    rw [List.length_cons, List.length_append, txtL_len, txtL_len]
    omega
theorem put_len {r : Rc} (h : recR r = true) : (putL r).length ≤ 90 := by
  rcases recR_cases h with ⟨d, hd, rfl⟩ | ⟨l, hl, rfl⟩ | ⟨f, t, a, hh, rfl⟩
  · obtain ⟨s1, s2⟩ := right_short ((dutyB_iff d).1 hd).1
    have := row_len d.ls s1
    rw [putL_duty]
    unfold rowL six
    simp only [List.length_cons, List.length_append, List.length_nil]
    omega
  · obtain ⟨s1, s2⟩ := right_short hl
    have := row_len l s1
    rw [putL_gone]
    unfold rowL
    simp only [List.length_cons]
    omega
  · obtain ⟨s1, s2⟩ := mats_short ((hushR_iff f t a).1 hh).2.2.2.2
    have := ask_len a s1
    rw [putL_hush]
    unfold askL six
    simp only [List.length_cons, List.length_append, List.length_nil]
    omega
end Go.Proofs.Ytopjiokbmpghjaa
