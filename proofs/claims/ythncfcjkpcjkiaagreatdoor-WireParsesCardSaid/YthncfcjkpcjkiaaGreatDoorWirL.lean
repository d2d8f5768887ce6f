/-
  What the library's functions on texts tell, as lists: cut at a byte, split at blanks, digits parsed.
-/
import Derived.Test.YthncfcjkpcjkiaaGreatDoorWirZ
import Derived.Lib.SplitLaws
import Derived.Lib.ItoaNum
import Derived.Lib.AtoiAll
namespace Go.Proofs.YthncfcjkpcjkiaaGreatDoor
open Go.RowKit Go.Shelf
set_option linter.unusedVariables false

theorem splitK_ne (sep : List UInt8) (sv k : Nat) (l : List UInt8) : Lib.splitK sep sv k l ≠ [] := by
  cases k with
  | zero => simp [Lib.splitK]
  | succ k =>
    unfold Lib.splitK
    split <;> simp
theorem splitW_is (l : List UInt8) : ∀ acc, splitW acc l = match Lib.splitK [32] 0 (l.count 32) l with
    | [] => []
    | p :: ps => (acc ++ p) :: ps := by
  induction l with
  | nil => intro acc; simp [splitW, Lib.splitK]
  | cons c l ih =>
    intro acc
    rw [splitW]
    by_cases hc : c = 32
    · subst hc
      rw [if_pos rfl, ih, List.count_cons_self]
      have hix : Lib.index (32 :: l) [32] = ((0 : Nat) : Int) := by rw [Lib.index]; simp [List.isPrefixOf]
      rw [Lib.splitK, hix, if_neg (by decide)]
      simp only [Int.toNat_natCast, Nat.add_zero, List.take_zero, List.length_singleton, Nat.zero_add, List.drop_succ_cons, List.drop_zero, List.append_nil, List.nil_append]
      cases h : Lib.splitK [32] 0 (l.count 32) l with
      | nil => exact absurd h (splitK_ne _ _ _ _)
      | cons p ps => rfl
    · rw [if_neg hc, ih, List.count_cons_of_ne (by simpa using hc)]
      cases hk : l.count 32 with
      | zero => simp [Lib.splitK]
      | succ k =>
        have hm : Lib.index l [32] ≠ -1 := fun e => by
          have h0 := Lib.count_miss e
          rw [Lib.count_one] at h0
          omega
        have hge := Lib.index_ge l [32]
        obtain ⟨i, hi⟩ : ∃ i : Nat, Lib.index l [32] = i := ⟨(Lib.index l [32]).toNat, by omega⟩
        have hp : ([32] : List UInt8).isPrefixOf (c :: l) = false := by simp [List.isPrefixOf, Ne.symm hc]
        have hix : Lib.index (c :: l) [32] = ((i + 1 : Nat) : Int) := by
          rw [Lib.index, hp]
          simp only [Bool.false_eq_true, if_false]
          rw [if_neg (fun e => hm (beq_iff_eq.1 e)), hi]
          omega
        rw [Lib.splitK, Lib.splitK, hix, hi, if_neg (by first | (simp; done) | (simp; omega)), if_neg (by first | (simp; done) | (simp; omega))]
        simp
theorem splitW_blanks (s : ByteArray) : Lib.splitB ⟨#[32]⟩ 0 (Lib.countB s ⟨#[32]⟩) s = (splitW [] (bs s)).map tx := by
  have h1 := Lib.splitB_data ⟨#[32]⟩ 0 (Lib.countB s ⟨#[32]⟩) s
  have h2 : Lib.countB s ⟨#[32]⟩ = (bs s).count 32 := Lib.count_one 32 s.data.toList
  have h3 := splitW_is (bs s) []
  rw [h2] at h1 ⊢
  have h4 : Lib.splitK [32] 0 ((bs s).count 32) (bs s) = splitW [] (bs s) := by
    rw [h3]
    cases h : Lib.splitK [32] 0 ((bs s).count 32) (bs s) with
    | nil => rfl
    | cons p ps => simp
  rw [← h4, show Lib.splitK [32] 0 ((bs s).count 32) (bs s) = _ from h1.symm, List.map_map]
  conv => lhs; rw [← List.map_id (Lib.splitB ⟨#[32]⟩ 0 ((bs s).count 32) s)]
  apply List.map_congr_left
  intro x _
  exact (tx_of x).symm
theorem splitW_count (s : ByteArray) : (splitW [] (bs s)).length = Lib.countB s ⟨#[32]⟩ + 1 := by
  have h := Lib.splitB_all ⟨#[32]⟩ (by decide) 0 _ s rfl
  rw [splitW_blanks, List.length_map] at h
  exact h

/-- where a label's sign stands -/
theorem labelW_idx (l : List UInt8) : ∀ acc, labelW acc l = if Lib.indexByte l 61 = -1 then none else some (tx (acc ++ l.take (Lib.indexByte l 61).toNat), tx (l.drop ((Lib.indexByte l 61).toNat + 1))) := by
  induction l with
  | nil => intro acc; rfl
  | cons c l ih =>
    intro acc
    by_cases hc : c = 61
    · subst hc
      have e : Lib.indexByte (61 :: l) 61 = 0 := by rw [Lib.indexByte, if_pos (by decide)]
      rw [labelW, if_pos rfl, e, if_neg (by decide)]
      simp
    · have e : Lib.indexByte (c :: l) 61 = if Lib.indexByte l 61 == -1 then -1 else Lib.indexByte l 61 + 1 := by rw [Lib.indexByte, if_neg (fun e => hc (beq_iff_eq.1 e))]
      rw [labelW, if_neg hc, ih, e]
      have hge := Lib.indexByte_ge l 61
      by_cases hm : Lib.indexByte l 61 = -1
      · rw [if_pos hm, hm]
        rfl
      · obtain ⟨i, hi⟩ : ∃ i : Nat, Lib.indexByte l 61 = i := ⟨(Lib.indexByte l 61).toNat, by omega⟩
        rw [if_neg hm, if_neg (fun e => hm (beq_iff_eq.1 e)), if_neg (by omega), hi]
        have e : ((i : Int) + 1).toNat = i + 1 := by omega
        rw [e]
        simp
theorem idx_lt (l : List UInt8) (c : UInt8) : Lib.indexByte l c < l.length := by
  induction l with
  | nil => simp [Lib.indexByte]
  | cons b l ih =>
    rw [Lib.indexByte, List.length_cons]
    split
    · omega
    · split <;> omega

/-- digits as the library parses them -/
theorem dec_digs (n : Nat) : Lib.decDigits n = digsB n := by
  induction n using Nat.strongRecOn with
  | _ n ih =>
    rw [Lib.decDigits, digsB]
    by_cases h : n < 10
    · rw [dif_pos h, if_pos h]; rfl
    · rw [dif_neg h, if_neg h, ih (n / 10) (by omega)]; rfl
theorem itoa_digs (n : Int) (h : 0 ≤ n) : Lib.itoa n = digsB n.toNat := by
  unfold Lib.itoa
  rw [if_neg (by omega), dec_digs]
theorem parse_digs (l : List UInt8) : ∀ acc : Nat, (∀ c ∈ l, isD c = true) → (acc + 1) * 10 ^ l.length ≤ 1000000000000000000 → Lib.parseUint10 acc l = .ok (l.foldl (fun n c => 10 * n + (c.toNat - 48)) acc) := by
  induction l with
  | nil => intro acc _ _; rfl
  | cons c l ih =>
    intro acc hd hb
    have hc := hd c (by simp)
    unfold isD at hc
    simp only [Bool.and_eq_true, decide_eq_true_eq] at hc
    rw [List.length_cons, Nat.pow_succ] at hb
    have hp : 1 ≤ 10 ^ l.length := Nat.one_le_pow _ _ (by decide)
    have e : (acc + 1) * (10 ^ l.length * 10) = (10 * acc + 10) * 10 ^ l.length := by rw [Nat.mul_comm (10 ^ l.length) 10, ← Nat.mul_assoc]; congr 1; omega
    rw [e] at hb
    have hb2 : 10 * acc + 10 ≤ 1000000000000000000 := Nat.le_trans (Nat.le_mul_of_pos_right _ (by omega)) hb
    rw [Lib.parseUint10, if_pos hc, if_neg (by omega), if_neg (by omega), List.foldl_cons, Nat.mul_comm acc 10]
    refine ih _ (fun d hd' => hd d (by simp [hd'])) (Nat.le_trans (Nat.mul_le_mul_right _ ?_) hb)
    omega
theorem atoi_digs (n : Nat) (h : n ≤ topT) : Lib.atoiAll (digsB n) = .ok (n : Int) := by
  have hall := digsB_all n
  have hlen := digsB_length 12 n (by unfold topT at h; omega)
  have hv := valB_digs n
  have hne := digsB_ne n
  have hpow : 10 ^ (digsB n).length ≤ 10 ^ 13 := Nat.pow_le_pow_right (by decide) (by omega)
  have hp := parse_digs (digsB n) 0 hall (by
    rw [Nat.zero_add, Nat.one_mul]
    exact Nat.le_trans hpow (by decide))
  change _ = Lib.NumEnd.ok (valB (digsB n)) at hp
  rw [hv] at hp
  unfold topT at h
  generalize digsB n = l at *
  cases l with
  | nil => exact absurd rfl hne
  | cons c r =>
    have hc := hall c (by simp)
    unfold isD at hc
    simp only [Bool.and_eq_true, decide_eq_true_eq] at hc
    unfold Lib.atoiAll
    simp only
    rw [if_neg (by omega), Lib.parseMag, if_neg hne, hp]
    simp only
    rw [if_neg (by omega), if_neg (by omega), if_neg (by omega)]
theorem time_ok {l : List UInt8} {n : Nat} (h : numB l = some n) : Lib.atoiAll l = .ok (n : Int) := by
  obtain ⟨e, hn⟩ := numB_some h
  rw [← e]
  exact atoi_digs n hn
theorem time_no {l : List UInt8} {v : Int} (h : Lib.atoiAll l = .ok v) (hb : timeB v = false) : numB l = none := by
  cases e : numB l with
  | none => rfl
  | some n =>
    have h1 := time_ok e
    rw [h1] at h
    injection h with h
    have h2 := (numB_some e).2
    unfold topT at h2
    unfold timeB at hb
    simp at hb
    omega
theorem time_odd {l : List UInt8} {v : Int} (h : Lib.atoiAll l = .ok v) (hd : digsB v.toNat ≠ l) : numB l = none := by
  cases e : numB l with
  | none => rfl
  | some n =>
    have h1 := time_ok e
    rw [h1] at h
    injection h with h
    obtain ⟨e2, _⟩ := numB_some e
    refine absurd ?_ hd
    rw [← h]
    exact e2
theorem time_is {l : List UInt8} {v : Int} (hv : timeB v = true) (hd : digsB v.toNat = l) : numB l = some v.toNat := by
  unfold timeB at hv
  simp at hv
  rw [← hd]
  exact numB_digs _ (by unfold topT; omega)
theorem time_syn {l : List UInt8} (h : ∀ v, Lib.atoiAll l ≠ .ok v) : numB l = none := by
  cases e : numB l with
  | none => rfl
  | some n => exact absurd (time_ok e) (h _)
end Go.Proofs.YthncfcjkpcjkiaaGreatDoor
