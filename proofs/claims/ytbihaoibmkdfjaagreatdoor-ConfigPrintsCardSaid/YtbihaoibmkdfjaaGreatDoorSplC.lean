/-
  What the library's functions on texts tell, as lists: split at a byte, lines, digits parsed.
-/
import Derived.Test.YtbihaoibmkdfjaaGreatDoorWirZ
import Derived.Test.YtbihaoibmkdfjaaGreatDoorPlnX
import Derived.Lib.SplitLaws
import Derived.Lib.ItoaNum
import Derived.Lib.AtoiAll
namespace Go.Proofs.YtbihaoibmkdfjaaGreatDoor
open Go.RowKit Go.Shelf
set_option linter.unusedVariables false

theorem splitK_ne (sep : List UInt8) (sv k : Nat) (l : List UInt8) : Lib.splitK sep sv k l ≠ [] := by
  cases k with
  | zero => simp [Lib.splitK]
  | succ k =>
    unfold Lib.splitK
    split <;> simp
/-- parted at each byte x -/
def splitC (x : UInt8) (acc : List UInt8) : List UInt8 → List (List UInt8)
  | [] => [acc]
  | c :: l => if c = x then acc :: splitC x [] l else splitC x (acc ++ [c]) l
theorem splitC_blank (l : List UInt8) : ∀ acc, splitC 32 acc l = splitW acc l := by
  induction l with
  | nil => intro acc; rfl
  | cons c l ih => intro acc; rw [splitC, splitW, ih, ih]
theorem splitC_is (x : UInt8) (l : List UInt8) : ∀ acc, splitC x acc l = match Lib.splitK [x] 0 (l.count x) l with
    | [] => []
    | p :: ps => (acc ++ p) :: ps := by
  induction l with
  | nil => intro acc; simp [splitC, Lib.splitK]
  | cons c l ih =>
    intro acc
    rw [splitC]
    by_cases hc : c = x
    · subst hc
      rw [if_pos rfl, ih, List.count_cons_self]
      have hix : Lib.index (c :: l) [c] = ((0 : Nat) : Int) := by rw [Lib.index]; simp [List.isPrefixOf]
      rw [Lib.splitK, hix, if_neg (by decide)]
      simp only [Int.toNat_natCast, Nat.add_zero, List.take_zero, List.length_singleton, Nat.zero_add, List.drop_succ_cons, List.drop_zero, List.append_nil, List.nil_append]
      cases h : Lib.splitK [c] 0 (l.count c) l with
      | nil => exact absurd h (splitK_ne _ _ _ _)
      | cons p ps => rfl
    · rw [if_neg hc, ih, List.count_cons_of_ne (by simpa using hc)]
      cases hk : l.count x with
      | zero => simp [Lib.splitK]
      | succ k =>
        have hm : Lib.index l [x] ≠ -1 := fun e => by
          have h0 := Lib.count_miss e
          rw [Lib.count_one] at h0
          omega
        have hge := Lib.index_ge l [x]
        obtain ⟨i, hi⟩ : ∃ i : Nat, Lib.index l [x] = i := ⟨(Lib.index l [x]).toNat, by omega⟩
        have hp : ([x] : List UInt8).isPrefixOf (c :: l) = false := by simp [List.isPrefixOf, Ne.symm hc]
        have hix : Lib.index (c :: l) [x] = ((i + 1 : Nat) : Int) := by
          rw [Lib.index, hp]
          simp only [Bool.false_eq_true, if_false]
          rw [if_neg (fun e => hm (beq_iff_eq.1 e)), hi]
          omega
        rw [Lib.splitK, Lib.splitK, hix, hi, if_neg (by first | (simp; done) | (simp; omega)), if_neg (by first | (simp; done) | (simp; omega))]
        simp
theorem splitC_parts (x : UInt8) (s : ByteArray) : Lib.splitB ⟨#[x]⟩ 0 (Lib.countB s ⟨#[x]⟩) s = (splitC x [] (bs s)).map tx := by
  have h1 := Lib.splitB_data ⟨#[x]⟩ 0 (Lib.countB s ⟨#[x]⟩) s
  have h2 : Lib.countB s ⟨#[x]⟩ = (bs s).count x := Lib.count_one x s.data.toList
  have h3 := splitC_is x (bs s) []
  rw [h2] at h1 ⊢
  have h4 : Lib.splitK [x] 0 ((bs s).count x) (bs s) = splitC x [] (bs s) := by
    rw [h3]
    cases h : Lib.splitK [x] 0 ((bs s).count x) (bs s) with
    | nil => rfl
    | cons p ps => simp
  rw [← h4, show Lib.splitK [x] 0 ((bs s).count x) (bs s) = _ from h1.symm, List.map_map]
  conv => lhs; rw [← List.map_id (Lib.splitB ⟨#[x]⟩ 0 ((bs s).count x) s)]
  apply List.map_congr_left
  intro y _
  exact (tx_of y).symm
theorem splitC_count (x : UInt8) (s : ByteArray) : (splitC x [] (bs s)).length = Lib.countB s ⟨#[x]⟩ + 1 := by
  have h := Lib.splitB_all ⟨#[x]⟩ (by simp [ByteArray.size]) 0 _ s rfl
  rw [splitC_parts, List.length_map] at h
  exact h
/-- lines, out of the parts at byte 10 -/
theorem split_lines (l : List UInt8) : ∀ acc, splitC 10 acc l = linesW acc l ++ [[]] ∨ (splitC 10 acc l = linesW acc l ∧ ∃ pre v, linesW acc l = pre ++ [v] ∧ v ≠ []) := by
  induction l with
  | nil =>
    intro acc
    rw [splitC, linesW]
    by_cases h : acc = []
    · left; rw [if_pos h, h]; rfl
    · right; rw [if_neg h]; exact ⟨rfl, [], acc, rfl, h⟩
  | cons c l ih =>
    intro acc
    rw [splitC, linesW]
    split
    · rcases ih [] with h | ⟨h, pre, v, h2, h3⟩
      · left; rw [h]; rfl
      · right; rw [h]; exact ⟨rfl, acc :: pre, v, by rw [h2]; rfl, h3⟩
    · exact ih _

theorem lines_sizesC (l : List UInt8) : ∀ acc, (∀ v ∈ linesW acc l, v.length ≤ acc.length + l.length) ∧ (linesW acc l).length ≤ l.length + 1 := by
  induction l with
  | nil =>
    intro acc
    rw [linesW]
    split
    · simp
    · simp
  | cons c l ih =>
    intro acc
    rw [linesW]
    split
    · have := ih []
      refine ⟨fun v hv => ?_, by simp; omega⟩
      rcases List.mem_cons.1 hv with rfl | hv
      · simp
      · have := this.1 v hv; simp at this ⊢; omega
    · have := ih (acc ++ [c])
      refine ⟨fun v hv => ?_, by have := this.2; simp; omega⟩
      have := this.1 v hv
      simp at this ⊢
      omega
theorem lines_sizes' (l : List UInt8) : (linesB l).length ≤ l.length + 1 := (lines_sizesC l []).2
/-- the numbers that are times -/
def timeB (t : Int) : Bool := decide (0 ≤ t) && decide (t ≤ 1099511627776)
/-- digits as the library parses them -/
theorem dec_digs (n : Nat) : Lib.decDigits n = digsB n := by
  induction n using Nat.strongRecOn with
  | _ n ih =>
    rw [Lib.decDigits, digsB]
    by_cases h : n < 10
    · rw [dif_pos h, if_pos h]; rfl
    · rw [dif_neg h, if_neg h, ih (n / 10) (by omega)]; rfl
theorem itoa_digs (n : Int) (h : 0 ≤ n) : Lib.itoa n = digsB n.toNat := by
  unfold Lib.itoa
  rw [if_neg (by omega), dec_digs]
theorem parse_digs (l : List UInt8) : ∀ acc : Nat, (∀ c ∈ l, isD c = true) → (acc + 1) * 10 ^ l.length ≤ 1000000000000000000 → Lib.parseUint10 acc l = .ok (l.foldl (fun n c => 10 * n + (c.toNat - 48)) acc) := by
  induction l with
  | nil => intro acc _ _; rfl
  | cons c l ih =>
    intro acc hd hb
    have hc := hd c (by simp)
    unfold isD at hc
    simp only [Bool.and_eq_true, decide_eq_true_eq] at hc
    rw [List.length_cons, Nat.pow_succ] at hb
    have hp : 1 ≤ 10 ^ l.length := Nat.one_le_pow _ _ (by decide)
    have e : (acc + 1) * (10 ^ l.length * 10) = (10 * acc + 10) * 10 ^ l.length := by rw [Nat.mul_comm (10 ^ l.length) 10, ← Nat.mul_assoc]; congr 1; omega
    rw [e] at hb
    have hb2 : 10 * acc + 10 ≤ 1000000000000000000 := Nat.le_trans (Nat.le_mul_of_pos_right _ (by omega)) hb
    rw [Lib.parseUint10, if_pos hc, if_neg (by omega), if_neg (by omega), List.foldl_cons, Nat.mul_comm acc 10]
    refine ih _ (fun d hd' => hd d (by simp [hd'])) (Nat.le_trans (Nat.mul_le_mul_right _ ?_) hb)
    omega
theorem atoi_digs (n : Nat) (h : n ≤ topT) : Lib.atoiAll (digsB n) = .ok (n : Int) := by
  have hall := digsB_all n
  have hlen := digsB_length 12 n (by unfold topT at h; omega)
  have hv := valB_digs n
  have hne := digsB_ne n
  have hpow : 10 ^ (digsB n).length ≤ 10 ^ 13 := Nat.pow_le_pow_right (by decide) (by omega)
  have hp := parse_digs (digsB n) 0 hall (by
    rw [Nat.zero_add, Nat.one_mul]
    exact Nat.le_trans hpow (by decide))
  change _ = Lib.NumEnd.ok (valB (digsB n)) at hp
  rw [hv] at hp
  unfold topT at h
  generalize digsB n = l at *
  cases l with
  | nil => exact absurd rfl hne
  | cons c r =>
    have hc := hall c (by simp)
    unfold isD at hc
    simp only [Bool.and_eq_true, decide_eq_true_eq] at hc
    unfold Lib.atoiAll
    simp only
    rw [if_neg (by omega), Lib.parseMag, if_neg hne, hp]
    simp only
    rw [if_neg (by omega), if_neg (by omega), if_neg (by omega)]
theorem time_ok {l : List UInt8} {n : Nat} (h : numB l = some n) : Lib.atoiAll l = .ok (n : Int) := by
  obtain ⟨e, hn⟩ := numB_some h
  rw [← e]
  exact atoi_digs n hn
theorem time_no {l : List UInt8} {v : Int} (h : Lib.atoiAll l = .ok v) (hb : timeB v = false) : numB l = none := by
  cases e : numB l with
  | none => rfl
  | some n =>
    have h1 := time_ok e
    rw [h1] at h
    injection h with h
    have h2 := (numB_some e).2
    unfold topT at h2
    unfold timeB at hb
    simp at hb
    omega
theorem time_odd {l : List UInt8} {v : Int} (h : Lib.atoiAll l = .ok v) (hd : digsB v.toNat ≠ l) : numB l = none := by
  cases e : numB l with
  | none => rfl
  | some n =>
    have h1 := time_ok e
    rw [h1] at h
    injection h with h
    obtain ⟨e2, _⟩ := numB_some e
    refine absurd ?_ hd
    rw [← h]
    exact e2
theorem time_is {l : List UInt8} {v : Int} (hv : timeB v = true) (hd : digsB v.toNat = l) : numB l = some v.toNat := by
  unfold timeB at hv
  simp at hv
  rw [← hd]
  exact numB_digs _ (by unfold topT; omega)
theorem time_syn {l : List UInt8} (h : ∀ v, Lib.atoiAll l ≠ .ok v) : numB l = none := by
  cases e : numB l with
  | none => rfl
  | some n => exact absurd (time_ok e) (h _)
end Go.Proofs.YtbihaoibmkdfjaaGreatDoor
