/-
  Records out of bytes, read from the beginning on: plain.
-/
import Derived.Test.YtopjiokbmpghjaaRecM
namespace Go.Proofs.Ytopjiokbmpghjaa
open Go.RowKit
set_option linter.unusedVariables false

/-- what is left of a text, and whether it was too short -/
abbrev SR := List UInt8 × Bool
def nxt (n : Nat) (s : SR) : List UInt8 × SR := if n ≤ s.1.length then (s.1.take n, s.1.drop n, s.2) else ([], s.1, true)
def numL (l : List UInt8) : Nat := l.foldl (fun n b => n * 256 + b.toNat) 0
def num (n : Nat) (s : SR) : Nat × SR := (numL (nxt n s).1, (nxt n s).2)
def wrd (s : SR) : List UInt8 × SR := nxt (num 1 s).1 (num 1 s).2
def lab1 (s : SR) : L2 × SR := ((tx (wrd s).1, tx (wrd (wrd s).2).1), (wrd (wrd s).2).2)
def mat1 (s : SR) : M3 × SR := ((((num 1 s).1 : Int), tx (wrd (num 1 s).2).1, tx (wrd (wrd (num 1 s).2).2).1), (wrd (wrd (num 1 s).2).2).2)
def labR : Nat → SR → List L2 × SR
  | 0, s => ([], s)
  | n + 1, s => ((lab1 s).1 :: (labR n (lab1 s).2).1, (labR n (lab1 s).2).2)
def matR : Nat → SR → List M3 × SR
  | 0, s => ([], s)
  | n + 1, s => ((mat1 s).1 :: (matR n (mat1 s).2).1, (matR n (mat1 s).2).2)
def labsR (s : SR) : List L2 × SR := labR (num 1 s).1 (num 1 s).2
def matsR (s : SR) : List M3 × SR := matR (num 1 s).1 (num 1 s).2
def dutR (s : SR) : D6 × SR :=
  let a := num 1 s; let b := num 1 a.2; let c := num 1 b.2; let d := num 1 c.2; let e := num 6 d.2; let f := labsR e.2
  (⟨f.1, a.1, b.1, c.1, e.1, d.1⟩, f.2)
def hshR (s : SR) : (Int × Int × List M3) × SR :=
  let a := num 6 s; let b := num 6 a.2; let c := matsR b.2
  (((a.1 : Int), (b.1 : Int), c.1), c.2)
def rcdR (s : SR) : Rc × SR :=
  let a := num 1 s
  if a.1 = 1 then (⟨1, (dutR a.2).1, [], 0, 0, []⟩, (dutR a.2).2)
  else if a.1 = 2 then (⟨2, zD, (labsR a.2).1, 0, 0, []⟩, (labsR a.2).2)
  else if a.1 = 3 then (⟨3, zD, [], (hshR a.2).1.1, (hshR a.2).1.2.1, (hshR a.2).1.2.2⟩, (hshR a.2).2)
  else (⟨(a.1 : Int), zD, [], 0, 0, []⟩, a.2)

/- lengths and bounds -/
theorem nxt_len (n : Nat) (s : SR) : (nxt n s).1.length ≤ n ∧ (nxt n s).1.length ≤ s.1.length ∧ (nxt n s).2.1.length ≤ s.1.length := by
  unfold nxt
  split
  · refine ⟨?_, ?_, ?_⟩ <;> dsimp only <;> first | (rw [List.length_take]; omega) | (rw [List.length_drop]; omega)
  · exact ⟨Nat.zero_le _, Nat.zero_le _, Nat.le_refl _⟩
theorem numL_lt : ∀ (l : List UInt8) (n : Nat), l.foldl (fun n b => n * 256 + b.toNat) n < (n + 1) * 256 ^ l.length
  | [], n => by simp
  | b :: l, n => by
    have hb := b.toNat_lt
    have := numL_lt l (n * 256 + b.toNat)
    rw [List.foldl_cons, List.length_cons, Nat.pow_succ]
    refine Nat.lt_of_lt_of_le this ?_
    rw [Nat.mul_comm (256 ^ l.length) 256, ← Nat.mul_assoc]
    exact Nat.mul_le_mul_right _ (by omega)
theorem numL_bound (l : List UInt8) : numL l < 256 ^ l.length := by
  have := numL_lt l 0
  unfold numL
  simpa using this
theorem num_one_le (s : SR) : (num 1 s).1 ≤ 255 := by
  have h := (nxt_len 1 s).1
  have hb := numL_bound (nxt 1 s).1
  have : 256 ^ (nxt 1 s).1.length ≤ 256 ^ 1 := Nat.pow_le_pow_right (by decide) h
  show numL _ ≤ 255
  omega
theorem num_six_le (s : SR) : (num 6 s).1 < 281474976710656 := by
  have h := (nxt_len 6 s).1
  have hb := numL_bound (nxt 6 s).1
  have : 256 ^ (nxt 6 s).1.length ≤ 256 ^ 6 := Nat.pow_le_pow_right (by decide) h
  show numL _ < _
  omega
theorem wrd_len (s : SR) : (wrd s).1.length ≤ 255 := by
  have h := (nxt_len (num 1 s).1 (num 1 s).2).1
  have := num_one_le s
  show (nxt _ _).1.length ≤ 255
  omega
theorem num_len (n : Nat) (s : SR) : (num n s).2.1.length ≤ s.1.length := (nxt_len n s).2.2
theorem wrd_left (s : SR) : (wrd s).2.1.length ≤ s.1.length := Nat.le_trans (nxt_len _ _).2.2 (num_len 1 s)
theorem lab1_left (s : SR) : (lab1 s).2.1.length ≤ s.1.length := Nat.le_trans (wrd_left _) (wrd_left s)
theorem mat1_left (s : SR) : (mat1 s).2.1.length ≤ s.1.length := Nat.le_trans (wrd_left _) (Nat.le_trans (wrd_left _) (num_len 1 s))
theorem labR_left : ∀ (n : Nat) (s : SR), (labR n s).2.1.length ≤ s.1.length
  | 0, s => Nat.le_refl _
  | n + 1, s => Nat.le_trans (labR_left n _) (lab1_left s)
theorem matR_left : ∀ (n : Nat) (s : SR), (matR n s).2.1.length ≤ s.1.length
  | 0, s => Nat.le_refl _
  | n + 1, s => Nat.le_trans (matR_left n _) (mat1_left s)
theorem labR_len : ∀ (n : Nat) (s : SR), (labR n s).1.length = n
  | 0, s => rfl
  | n + 1, s => by rw [labR, List.length_cons, labR_len n]
theorem matR_len : ∀ (n : Nat) (s : SR), (matR n s).1.length = n
  | 0, s => rfl
  | n + 1, s => by rw [matR, List.length_cons, matR_len n]
theorem labR_short : ∀ (n : Nat) (s : SR), ∀ x ∈ (labR n s).1, x.1.size ≤ 255 ∧ x.2.size ≤ 255
  | 0, s, x, h => by cases h
  | n + 1, s, x, h => by
    rw [labR] at h
    rcases List.mem_cons.1 h with rfl | h
    · exact ⟨by show (tx _).size ≤ 255; rw [tx_size]; exact wrd_len _, by show (tx _).size ≤ 255; rw [tx_size]; exact wrd_len _⟩
    · exact labR_short n _ x h
theorem matR_short : ∀ (n : Nat) (s : SR), ∀ x ∈ (matR n s).1, x.2.1.size ≤ 255 ∧ x.2.2.size ≤ 255
  | 0, s, x, h => by cases h
  | n + 1, s, x, h => by
    rw [matR] at h
    rcases List.mem_cons.1 h with rfl | h
    · exact ⟨by show (tx _).size ≤ 255; rw [tx_size]; exact wrd_len _, by show (tx _).size ≤ 255; rw [tx_size]; exact wrd_len _⟩
    · exact matR_short n _ x h

/- what was read to the end is put so -/
theorem nxt_ok {n : Nat} {s : SR} (h : (nxt n s).2.2 = false) : s.2 = false ∧ s.1 = (nxt n s).1 ++ (nxt n s).2.1 ∧ (nxt n s).1.length = n := by
  unfold nxt at h ⊢
  split at h
  · rename_i h1
    rw [if_pos h1]
    exact ⟨h, (List.take_append_drop n s.1).symm, by rw [List.length_take]; omega⟩
  · cases h
theorem list_one {α : Type} {l : List α} (h : l.length = 1) : ∃ a, l = [a] := by
  match l, h with
  | [a], _ => exact ⟨a, rfl⟩
theorem list_six {α : Type} {l : List α} (h : l.length = 6) : ∃ a b c d e f, l = [a, b, c, d, e, f] := by
  match l, h with
  | [a, b, c, d, e, f], _ => exact ⟨a, b, c, d, e, f, rfl⟩
theorem b1_of (b : UInt8) : b1 ((b.toNat : Nat) : Int) = b := by
  unfold b1
  simp
theorem num1_ok {s : SR} (h : (num 1 s).2.2 = false) : s.2 = false ∧ s.1 = UInt8.ofNat (num 1 s).1 :: (num 1 s).2.1 := by
  obtain ⟨h1, h2, h3⟩ := nxt_ok (show (nxt 1 s).2.2 = false from h)
  obtain ⟨a, ha⟩ := list_one h3
  refine ⟨h1, ?_⟩
  have e : (num 1 s).1 = a.toNat := by
    show numL (nxt 1 s).1 = _
    rw [ha]
    simp [numL]
  rw [e, show UInt8.ofNat a.toNat = a from by simp, h2, ha]
  rfl
theorem b1_nat2 (n : Nat) : b1 ((n : Nat) : Int) = UInt8.ofNat n := rfl
theorem num6_ok {s : SR} (h : (num 6 s).2.2 = false) : s.2 = false ∧ s.1 = six ((num 6 s).1 : Int) ++ (num 6 s).2.1 := by
  obtain ⟨h1, h2, h3⟩ := nxt_ok (show (nxt 6 s).2.2 = false from h)
  obtain ⟨a, b, c, d, e, f, hl⟩ := list_six h3
  refine ⟨h1, ?_⟩
  have en : (num 6 s).1 = ((((a.toNat * 256 + b.toNat) * 256 + c.toNat) * 256 + d.toNat) * 256 + e.toNat) * 256 + f.toNat := by
    show numL (nxt 6 s).1 = _
    rw [hl]
    simp [numL]
  have ha := a.toNat_lt
  have hb := b.toNat_lt
  have hc := c.toNat_lt
  have hd := d.toNat_lt
  have he := e.toNat_lt
  have hf := f.toNat_lt
  have e6 : six ((num 6 s).1 : Int) = [a, b, c, d, e, f] := by
    rw [en]
    unfold six
    have k1 : ((((((((a.toNat * 256 + b.toNat) * 256 + c.toNat) * 256 + d.toNat) * 256 + e.toNat) * 256 + f.toNat : Nat) : Int)) / 1099511627776 % 256) = ((a.toNat : Nat) : Int) := by omega
    have k2 : ((((((((a.toNat * 256 + b.toNat) * 256 + c.toNat) * 256 + d.toNat) * 256 + e.toNat) * 256 + f.toNat : Nat) : Int)) / 4294967296 % 256) = ((b.toNat : Nat) : Int) := by omega
    have k3 : ((((((((a.toNat * 256 + b.toNat) * 256 + c.toNat) * 256 + d.toNat) * 256 + e.toNat) * 256 + f.toNat : Nat) : Int)) / 16777216 % 256) = ((c.toNat : Nat) : Int) := by omega
    have k4 : ((((((((a.toNat * 256 + b.toNat) * 256 + c.toNat) * 256 + d.toNat) * 256 + e.toNat) * 256 + f.toNat : Nat) : Int)) / 65536 % 256) = ((d.toNat : Nat) : Int) := by omega
    have k5 : ((((((((a.toNat * 256 + b.toNat) * 256 + c.toNat) * 256 + d.toNat) * 256 + e.toNat) * 256 + f.toNat : Nat) : Int)) / 256 % 256) = ((e.toNat : Nat) : Int) := by omega
    have k6 : ((((((((a.toNat * 256 + b.toNat) * 256 + c.toNat) * 256 + d.toNat) * 256 + e.toNat) * 256 + f.toNat : Nat) : Int)) % 256) = ((f.toNat : Nat) : Int) := by omega
    rw [k1, k2, k3, k4, k5, k6, b1_of, b1_of, b1_of, b1_of, b1_of, b1_of]
  rw [e6, h2, hl]
  rfl
theorem wrd_ok {s : SR} (h : (wrd s).2.2 = false) : s.2 = false ∧ s.1 = txtL (tx (wrd s).1) ++ (wrd s).2.1 := by
  obtain ⟨h1, h2, h3⟩ := nxt_ok (show (nxt (num 1 s).1 (num 1 s).2).2.2 = false from h)
  obtain ⟨g1, g2⟩ := num1_ok h1
  refine ⟨g1, ?_⟩
  unfold txtL
  rw [tx_size, tx_data]
  show _ = UInt8.ofNat (nxt (num 1 s).1 (num 1 s).2).1.length :: _ ++ _
  rw [h3, g2, h2]
  rfl
theorem lab1_ok {s : SR} (h : (lab1 s).2.2 = false) : s.2 = false ∧ s.1 = labL (lab1 s).1 ++ (lab1 s).2.1 := by
  obtain ⟨h1, h2⟩ := wrd_ok (show (wrd (wrd s).2).2.2 = false from h)
  obtain ⟨g1, g2⟩ := wrd_ok h1
  refine ⟨g1, ?_⟩
  rw [g2, h2, labL_app]
  rfl
theorem mat1_ok {s : SR} (h : (mat1 s).2.2 = false) : s.2 = false ∧ s.1 = matL (mat1 s).1 ++ (mat1 s).2.1 := by
  obtain ⟨h1, h2⟩ := wrd_ok (show (wrd (wrd (num 1 s).2).2).2.2 = false from h)
  obtain ⟨g1, g2⟩ := wrd_ok h1
  obtain ⟨f1, f2⟩ := num1_ok g1
  refine ⟨f1, ?_⟩
  rw [f2, g2, h2, matL_app]
  rfl
theorem labR_ok : ∀ (n : Nat) (s : SR), (labR n s).2.2 = false → s.2 = false ∧ s.1 = (labR n s).1.flatMap labL ++ (labR n s).2.1
  | 0, s, h => ⟨h, rfl⟩
  | n + 1, s, h => by
    obtain ⟨h1, h2⟩ := labR_ok n (lab1 s).2 h
    obtain ⟨g1, g2⟩ := lab1_ok h1
    refine ⟨g1, ?_⟩
    rw [g2, h2, labR, List.flatMap_cons, List.append_assoc]
theorem matR_ok : ∀ (n : Nat) (s : SR), (matR n s).2.2 = false → s.2 = false ∧ s.1 = (matR n s).1.flatMap matL ++ (matR n s).2.1
  | 0, s, h => ⟨h, rfl⟩
  | n + 1, s, h => by
    obtain ⟨h1, h2⟩ := matR_ok n (mat1 s).2 h
    obtain ⟨g1, g2⟩ := mat1_ok h1
    refine ⟨g1, ?_⟩
    rw [g2, h2, matR, List.flatMap_cons, List.append_assoc]
theorem labsR_ok {s : SR} (h : (labsR s).2.2 = false) : s.2 = false ∧ s.1 = rowL (labsR s).1 ++ (labsR s).2.1 := by
  obtain ⟨h1, h2⟩ := labR_ok _ _ h
  obtain ⟨g1, g2⟩ := num1_ok h1
  refine ⟨g1, ?_⟩
  rw [g2, h2]
  unfold rowL
  rw [show (labsR s).1.length = (num 1 s).1 from labR_len _ _]
  rfl
theorem matsR_ok {s : SR} (h : (matsR s).2.2 = false) : s.2 = false ∧ s.1 = askL (matsR s).1 ++ (matsR s).2.1 := by
  obtain ⟨h1, h2⟩ := matR_ok _ _ h
  obtain ⟨g1, g2⟩ := num1_ok h1
  refine ⟨g1, ?_⟩
  rw [g2, h2]
  unfold askL
  rw [show (matsR s).1.length = (num 1 s).1 from matR_len _ _]
  rfl
theorem dutR_ok {s : SR} (h : (dutR s).2 = ([], false)) : s.2 = false ∧ s.1 = b1 (dutR s).1.rt :: b1 (dutR s).1.pl :: b1 (dutR s).1.tr :: b1 (dutR s).1.st :: (six (dutR s).1.du ++ rowL (dutR s).1.ls) := by
  obtain ⟨x, hx⟩ : ∃ x, labsR (num 6 (num 1 (num 1 (num 1 (num 1 s).2).2).2).2).2 = x := ⟨_, rfl⟩
  obtain ⟨e, he⟩ : ∃ e, num 6 (num 1 (num 1 (num 1 (num 1 s).2).2).2).2 = e := ⟨_, rfl⟩
  obtain ⟨d, hd⟩ : ∃ d, num 1 (num 1 (num 1 (num 1 s).2).2).2 = d := ⟨_, rfl⟩
  obtain ⟨c, hc⟩ : ∃ c, num 1 (num 1 (num 1 s).2).2 = c := ⟨_, rfl⟩
  obtain ⟨b, hb⟩ : ∃ b, num 1 (num 1 s).2 = b := ⟨_, rfl⟩
  obtain ⟨a, ha⟩ : ∃ a, num 1 s = a := ⟨_, rfl⟩
  have hD : dutR s = (⟨x.1, a.1, b.1, c.1, e.1, d.1⟩, x.2) := by rw [← hx, ← ha, ← hb, ← hc, ← he, ← hd]; rfl
  rw [hD] at h ⊢
  dsimp only at h ⊢
  rw [he] at hx
  rw [hd] at he
  rw [hc] at hd
  rw [hb] at hc
  rw [ha] at hb
  have k1 : x.2.2 = false := by rw [h]
  have k2 : x.2.1 = [] := by rw [h]
  rw [← hx] at k1 k2
  obtain ⟨a1, a2⟩ := labsR_ok k1
  rw [hx] at a2
  rw [hx] at k2
  rw [← he] at a1
  obtain ⟨c1, c2⟩ := num6_ok a1
  rw [he] at c2
  rw [← hd] at c1
  obtain ⟨d1, d2⟩ := num1_ok c1
  rw [hd] at d2
  rw [← hc] at d1
  obtain ⟨e1, e2⟩ := num1_ok d1
  rw [hc] at e2
  rw [← hb] at e1
  obtain ⟨f1, f2⟩ := num1_ok e1
  rw [hb] at f2
  rw [← ha] at f1
  obtain ⟨g1, g2⟩ := num1_ok f1
  rw [ha] at g2
  refine ⟨g1, ?_⟩
  rw [g2, f2, e2, d2, c2, a2, k2, List.append_nil]
  rfl
theorem hshR_ok {s : SR} (h : (hshR s).2 = ([], false)) : s.2 = false ∧ s.1 = six (hshR s).1.1 ++ (six (hshR s).1.2.1 ++ askL (hshR s).1.2.2) := by
  obtain ⟨x, hx⟩ : ∃ x, matsR (num 6 (num 6 s).2).2 = x := ⟨_, rfl⟩
  obtain ⟨b, hb⟩ : ∃ b, num 6 (num 6 s).2 = b := ⟨_, rfl⟩
  obtain ⟨a, ha⟩ : ∃ a, num 6 s = a := ⟨_, rfl⟩
  have hD : hshR s = ((((a.1 : Nat) : Int), ((b.1 : Nat) : Int), x.1), x.2) := by rw [← hx, ← ha, ← hb]; rfl
  rw [hD] at h ⊢
  dsimp only at h ⊢
  rw [hb] at hx
  rw [ha] at hb
  have k1 : x.2.2 = false := by rw [h]
  have k2 : x.2.1 = [] := by rw [h]
  rw [← hx] at k1 k2
  obtain ⟨a1, a2⟩ := matsR_ok k1
  rw [hx] at a2
  rw [hx] at k2
  rw [← hb] at a1
  obtain ⟨c1, c2⟩ := num6_ok a1
  rw [hb] at c2
  rw [← ha] at c1
  obtain ⟨d1, d2⟩ := num6_ok c1
  rw [ha] at d2
  refine ⟨d1, ?_⟩
  rw [d2, c2, a2, k2, List.append_nil]
theorem rcdR_ok {s : SR} (h : (rcdR s).2 = ([], false)) (hr : recR (rcdR s).1 = true) : putL (rcdR s).1 = s.1 := by
  obtain ⟨a, ha⟩ : ∃ a, num 1 s = a := ⟨_, rfl⟩
  by_cases q1 : a.1 = 1
  · have hD : rcdR s = (⟨1, (dutR a.2).1, [], 0, 0, []⟩, (dutR a.2).2) := by unfold rcdR; dsimp only; rw [ha, if_pos q1]
    rw [hD] at h ⊢
    dsimp only at h
    obtain ⟨g1, g2⟩ := dutR_ok h
    rw [← ha] at g1
    obtain ⟨f1, f2⟩ := num1_ok g1
    rw [f2, ha, q1, g2, putL_duty]
    rfl
  · by_cases q2 : a.1 = 2
    · have hD : rcdR s = (⟨2, zD, (labsR a.2).1, 0, 0, []⟩, (labsR a.2).2) := by unfold rcdR; dsimp only; rw [ha, if_neg q1, if_pos q2]
      rw [hD] at h ⊢
      dsimp only at h
      have k1 : (labsR a.2).2.2 = false := by rw [h]
      have k2 : (labsR a.2).2.1 = [] := by rw [h]
      obtain ⟨g1, g2⟩ := labsR_ok k1
      rw [← ha] at g1
      obtain ⟨f1, f2⟩ := num1_ok g1
      rw [f2, ha, q2, g2, k2, List.append_nil, putL_gone]
      rfl
    · by_cases q3 : a.1 = 3
      · have hD : rcdR s = (⟨3, zD, [], (hshR a.2).1.1, (hshR a.2).1.2.1, (hshR a.2).1.2.2⟩, (hshR a.2).2) := by unfold rcdR; dsimp only; rw [ha, if_neg q1, if_neg q2, if_pos q3]
        rw [hD] at h ⊢
        dsimp only at h
        obtain ⟨g1, g2⟩ := hshR_ok h
        rw [← ha] at g1
        obtain ⟨f1, f2⟩ := num1_ok g1
        rw [f2, ha, q3, g2, putL_hush]
        rfl
      · have hD : rcdR s = (⟨(a.1 : Int), zD, [], 0, 0, []⟩, a.2) := by unfold rcdR; dsimp only; rw [ha, if_neg q1, if_neg q2, if_neg q3]
        rw [hD] at hr
        unfold recR at hr
        dsimp only at hr
        rw [if_neg (by omega), if_neg (by omega), if_neg (by omega)] at hr
        cases hr

/- what is put is read so -/
theorem nxt_app (p q : List UInt8) : nxt p.length (p ++ q, false) = (p, (q, false)) := by
  unfold nxt
  dsimp only
  rw [if_pos (by rw [List.length_append]; omega), List.take_left, List.drop_left]
theorem num1_app (b : UInt8) (q : List UInt8) : num 1 (b :: q, false) = (b.toNat, (q, false)) := by
  have := nxt_app [b] q
  unfold num
  rw [show (b :: q : List UInt8) = [b] ++ q from rfl, show (1 : Nat) = [b].length from rfl, this]
  simp [numL]
theorem num1_b1 {n : Int} (h0 : 0 ≤ n) (h1 : n ≤ 255) (q : List UInt8) : num 1 (b1 n :: q, false) = (n.toNat, (q, false)) := by
  rw [num1_app]
  have := b1_nat h0 h1
  rw [show (b1 n).toNat = n.toNat by omega]
theorem num6_app {t : Int} (h0 : 0 ≤ t) (h1 : t ≤ 1099511627776) (q : List UInt8) : num 6 (six t ++ q, false) = (t.toNat, (q, false)) := by
  have := nxt_app (six t) q
  unfold num
  rw [show (6 : Nat) = (six t).length from rfl, this]
  unfold six
  have k0 := b1_nat (n := t / 1099511627776 % 256) (by omega) (by omega)
  have k1 := b1_nat (n := t / 4294967296 % 256) (by omega) (by omega)
  have k2 := b1_nat (n := t / 16777216 % 256) (by omega) (by omega)
  have k3 := b1_nat (n := t / 65536 % 256) (by omega) (by omega)
  have k4 := b1_nat (n := t / 256 % 256) (by omega) (by omega)
  have k5 := b1_nat (n := t % 256) (by omega) (by omega)
  refine Prod.ext ?_ rfl
  show numL _ = t.toNat
  simp only [numL, List.foldl_cons, List.foldl_nil]
  omega
theorem wrd_app {t : ByteArray} (ht : t.size ≤ 255) (q : List UInt8) : wrd (txtL t ++ q, false) = (t.data.toList, (q, false)) := by
  have hsz : t.data.toList.length = t.size := by unfold ByteArray.size; simp
  unfold wrd txtL
  rw [List.cons_append, num1_app, of_nat ht]
  dsimp only
  rw [← hsz]
  exact nxt_app _ _
theorem lab1_app {x : L2} (h1 : x.1.size ≤ 255) (h2 : x.2.size ≤ 255) (q : List UInt8) : lab1 (labL x ++ q, false) = (x, (q, false)) := by
  unfold lab1
  rw [labL_app, wrd_app h1]
  dsimp only
  rw [wrd_app h2, tx_of, tx_of]
theorem mat1_app {x : M3} (h0 : 0 ≤ x.1) (h00 : x.1 ≤ 255) (h1 : x.2.1.size ≤ 255) (h2 : x.2.2.size ≤ 255) (q : List UInt8) : mat1 (matL x ++ q, false) = (x, (q, false)) := by
  unfold mat1
  rw [matL_app, num1_b1 h0 h00]
  dsimp only
  rw [wrd_app h1]
  dsimp only
  rw [wrd_app h2, tx_of, tx_of, show ((x.1.toNat : Nat) : Int) = x.1 by omega]
theorem labR_app : ∀ (l : List L2) (q : List UInt8), Short l → labR l.length (l.flatMap labL ++ q, false) = (l, (q, false))
  | [], q, _ => rfl
  | x :: l, q, h => by
    obtain ⟨h1, h2⟩ := h x (by simp)
    rw [List.length_cons, labR, List.flatMap_cons, List.append_assoc, lab1_app h1 h2]
    dsimp only
    rw [labR_app l q (fun y hy => h y (by simp [hy]))]
theorem matR_app : ∀ (l : List M3) (q : List UInt8), ShortA l → matR l.length (l.flatMap matL ++ q, false) = (l, (q, false))
  | [], q, _ => rfl
  | x :: l, q, h => by
    obtain ⟨h0, h00, h1, h2⟩ := h x (by simp)
    rw [List.length_cons, matR, List.flatMap_cons, List.append_assoc, mat1_app h0 h00 h1 h2]
    dsimp only
    rw [matR_app l q (fun y hy => h y (by simp [hy]))]
theorem labsR_app {l : List L2} (h : Short l) (hl : l.length ≤ 255) (q : List UInt8) : labsR (rowL l ++ q, false) = (l, (q, false)) := by
  unfold labsR rowL
  rw [List.cons_append, num1_app, of_nat hl]
  exact labR_app l q h
theorem matsR_app {l : List M3} (h : ShortA l) (hl : l.length ≤ 255) (q : List UInt8) : matsR (askL l ++ q, false) = (l, (q, false)) := by
  unfold matsR askL
  rw [List.cons_append, num1_app, of_nat hl]
  exact matR_app l q h
theorem rcdR_put {r : Rc} (h : recR r = true) : rcdR (putL r, false) = (r, ([], false)) := by
  rcases recR_cases h with ⟨d, hd, rfl⟩ | ⟨l, hl, rfl⟩ | ⟨f, t, a, hh, rfl⟩
  · obtain ⟨g1, g2, g3, g4, g5, g6, g7, g8, g9, g10⟩ := (dutyB_iff d).1 hd
    obtain ⟨s1, s2⟩ := right_short g1
    obtain ⟨t1, t2⟩ := (timeB_iff _).1 g8
    have hS : Short d.ls := fun x hx => by have := s1 x hx; omega
    have e0 := num1_app 1 (b1 d.rt :: b1 d.pl :: b1 d.tr :: b1 d.st :: (six d.du ++ rowL d.ls))
    have e1 := num1_b1 g2 (by omega) (b1 d.pl :: b1 d.tr :: b1 d.st :: (six d.du ++ rowL d.ls))
    have e2 := num1_b1 g4 (by omega) (b1 d.tr :: b1 d.st :: (six d.du ++ rowL d.ls))
    have e3 := num1_b1 g6 (by omega) (b1 d.st :: (six d.du ++ rowL d.ls))
    have e4 := num1_b1 (n := d.st) (by omega) (by omega) (six d.du ++ rowL d.ls)
    have e5 := num6_app t1 t2 (rowL d.ls)
    have e6 := labsR_app hS (by omega) []
    rw [List.append_nil] at e6
    rw [putL_duty]
    have hD : dutR (b1 d.rt :: b1 d.pl :: b1 d.tr :: b1 d.st :: (six d.du ++ rowL d.ls), false) = (d, ([], false)) := by
      unfold dutR
      simp only [e1, e2, e3, e4, e5, e6]
      rw [show ((d.rt.toNat : Nat) : Int) = d.rt by omega, show ((d.pl.toNat : Nat) : Int) = d.pl by omega, show ((d.tr.toNat : Nat) : Int) = d.tr by omega, show ((d.du.toNat : Nat) : Int) = d.du by omega, show ((d.st.toNat : Nat) : Int) = d.st by omega]
    unfold rcdR
    simp only [e0]
    rw [if_pos (by decide), hD]
  · obtain ⟨s1, s2⟩ := right_short hl
    have hS : Short l := fun x hx => by have := s1 x hx; omega
    have e0 := num1_app 2 (rowL l)
    have e6 := labsR_app hS (by omega) []
    rw [List.append_nil] at e6
    rw [putL_gone]
    unfold rcdR
    simp only [e0]
    rw [if_neg (by decide), if_pos (by decide), e6]
  · obtain ⟨g1, g2, g3, g4, g5⟩ := (hushR_iff f t a).1 hh
    obtain ⟨s1, s2⟩ := mats_short g5
    obtain ⟨t1, t2⟩ := (timeB_iff _).1 g1
    obtain ⟨t3, t4⟩ := (timeB_iff _).1 g2
    have hS : ShortA a := fun x hx => by have := s1 x hx; omega
    have e0 := num1_app 3 (six f ++ (six t ++ askL a))
    have e1 := num6_app t1 t2 (six t ++ askL a)
    have e2 := num6_app t3 t4 (askL a)
    have e6 := matsR_app hS (by omega) []
    rw [List.append_nil] at e6
    rw [putL_hush]
    have hD : hshR (six f ++ (six t ++ askL a), false) = ((f, t, a), ([], false)) := by
      unfold hshR
      simp only [e1, e2, e6]
      rw [show ((f.toNat : Nat) : Int) = f by omega, show ((t.toNat : Nat) : Int) = t by omega]
    unfold rcdR
    simp only [e0]
    rw [if_neg (by decide), if_neg (by decide), if_pos (by decide), hD]
/-- what is read from the beginning on is the record, just if there is one -/
def gotB (L : List UInt8) : Bool := decide ((rcdR (L, false)).2.1 = []) && (!(rcdR (L, false)).2.2 && recR (rcdR (L, false)).1)
theorem gotB_iff (L : List UInt8) : gotB L = true ↔ (rcdR (L, false)).2 = ([], false) ∧ recR (rcdR (L, false)).1 = true := by
  unfold gotB
  simp only [Bool.and_eq_true, decide_eq_true_eq, Bool.not_eq_true']
  constructor
  · rintro ⟨h1, h2, h3⟩
    exact ⟨Prod.ext h1 h2, h3⟩
  · rintro ⟨h1, h3⟩
    rw [h1]
    exact ⟨rfl, rfl, h3⟩
theorem got_parse {L : List UInt8} (h : gotB L = true) : parseN L = (rcdR (L, false)).1 := by
  obtain ⟨h1, h2⟩ := (gotB_iff L).1 h
  have := rcdR_ok h1 h2
  dsimp only at this
  have h4 := parse_put h2
  rw [this] at h4
  exact h4
theorem gotB_is (L : List UInt8) : (recR (parseN L) && decide (putL (parseN L) = L)) = gotB L := by
  rw [Bool.eq_iff_iff, gotB_iff]
  simp only [Bool.and_eq_true, decide_eq_true_eq]
  constructor
  · rintro ⟨h1, h2⟩
    have := rcdR_put h1
    rw [h2] at this
    rw [this]
    exact ⟨rfl, h1⟩
  · rintro ⟨h1, h2⟩
    have h3 := rcdR_ok h1 h2
    dsimp only at h3
    have h4 := parse_put h2
    rw [h3] at h4
    rw [h4]
    exact ⟨h2, h3⟩
end Go.Proofs.Ytopjiokbmpghjaa
