/-
  What is true of disks as lists of texts: what a write, torn or not, leaves.
-/
import Derived.Test.YtmjbhmmcpjhmcaaDiskWrite
namespace Go.Proofs.Ytmjbhmmcpjhmcaa
open Go.RowKit
set_option linter.unusedVariables false

theorem torn_bytes (old text : ByteArray) (k : Nat) (ho : old.size = 128) (ht : text.size = 128) (hk : k ≤ 128) :
    (tornS old text k).data.toList = text.data.toList.take k ++ old.data.toList.drop k := by
  rw [← storn_list old text k ho ht hk]
theorem torn_zero (old text : ByteArray) (ho : old.size = 128) (ht : text.size = 128) : tornS old text 0 = old := by
  apply bytes_eq
  rw [torn_bytes old text 0 ho ht (by omega)]
  simp
theorem bytes_len {a : ByteArray} (h : a.size = 128) : a.data.toList.length = 128 := by rw [Array.length_toList]; exact h
theorem torn_full (old text : ByteArray) (ho : old.size = 128) (ht : text.size = 128) : tornS old text 128 = text := by
  apply bytes_eq
  rw [torn_bytes old text 128 ho ht (by omega), List.drop_of_length_le (by rw [bytes_len ho]; exact Nat.le_refl _), List.append_nil, List.take_of_length_le (by rw [bytes_len ht]; exact Nat.le_refl _)]
theorem torn_twice (old text : ByteArray) (k m : Nat) (ho : old.size = 128) (ht : text.size = 128) (hk : k ≤ m) (hm : m ≤ 128) : tornS (tornS old text k) text m = tornS old text m := by
  apply bytes_eq
  rw [torn_bytes _ text m (torn_size old text k ho ht (by omega)) ht hm, torn_bytes old text k ho ht (by omega), torn_bytes old text m ho ht hm]
  congr 1
  rw [List.drop_append, List.drop_of_length_le (by rw [List.length_take]; omega), List.nil_append, List.length_take, bytes_len ht, List.drop_drop]
  congr 1
  omega

theorem right_iff (ss : List ByteArray) : rightB ss = true ↔ 10 ≤ ss.length ∧ ss.length ≤ 130 ∧ ∀ s ∈ ss, s.size = 128 := by
  unfold rightB
  simp [and_assoc]
theorem right_set (ss : List ByteArray) (a : Nat) (x : ByteArray) (h : rightB ss = true) (hx : x.size = 128) : rightB (ss.set a x) = true := by
  rw [right_iff] at h ⊢
  refine ⟨by rw [List.length_set]; exact h.1, by rw [List.length_set]; exact h.2.1, fun s hs => ?_⟩
  rcases List.mem_or_eq_of_mem_set hs with hs | rfl
  · exact h.2.2 s hs
  · exact hx
theorem find_set (ss : List ByteArray) (a : Nat) (x : ByteArray) (h : rightB ss = true) (hx : x.size = 128) (b : Int) : findE (ss.set a x) b = findE ss b := by
  unfold findE hasB
  rw [right_set ss a x h hx, h, List.length_set]
/-- a write that is not refused -/
structure Good (ss : List ByteArray) (a : Nat) (t : ByteArray) : Prop where
  right : rightB ss = true
  lt : a < ss.length
  size : t.size = 128
theorem Good.find {ss : List ByteArray} {a : Nat} {t : ByteArray} (h : Good ss a t) : findE ss (a : Int) = 0 := by
  unfold findE hasB
  rw [h.right]
  have := h.lt
  simp
  omega
theorem Good.tearE {ss : List ByteArray} {a : Nat} {t : ByteArray} (h : Good ss a t) {k : Nat} (hk : k ≤ 128) : tearE ss (a : Int) t (k : Int) = 0 := by
  unfold Ytmjbhmmcpjhmcaa.tearE
  rw [if_pos h.find, if_pos h.size, if_pos (by omega)]
theorem Good.tearL {ss : List ByteArray} {a : Nat} {t : ByteArray} (h : Good ss a t) {k : Nat} (hk : k ≤ 128) : tearL ss (a : Int) t (k : Int) = ss.set a (tornS (ss.getD a ByteArray.empty) t k) := by
  unfold Ytmjbhmmcpjhmcaa.tearL
  rw [if_pos (h.tearE hk)]
  rfl
theorem Good.old {ss : List ByteArray} {a : Nat} {t : ByteArray} (h : Good ss a t) : (ss.getD a ByteArray.empty).size = 128 := right_size h.right a h.lt
theorem Good.next {ss : List ByteArray} {a : Nat} {t : ByteArray} (h : Good ss a t) {k : Nat} (hk : k ≤ 128) : Good (Ytmjbhmmcpjhmcaa.tearL ss (a : Int) t (k : Int)) a t := by
  rw [h.tearL hk]
  exact ⟨right_set _ _ _ h.right (torn_size _ _ _ h.old h.size hk), by rw [List.length_set]; exact h.lt, h.size⟩
theorem getD_set_self (ss : List ByteArray) (a : Nat) (x : ByteArray) (h : a < ss.length) : (ss.set a x).getD a ByteArray.empty = x := by
  rw [List.getD_eq_getElem?_getD, List.getElem?_set_self h]
  rfl
theorem set_self (ss : List ByteArray) (a : Nat) (h : a < ss.length) : ss.set a (ss.getD a ByteArray.empty) = ss := by
  rw [List.getD_eq_getElem?_getD, List.getElem?_eq_getElem h]
  exact List.set_getElem_self h
/-- torn once more further on it is as torn there at once -/
theorem Good.twice {ss : List ByteArray} {a : Nat} {t : ByteArray} (h : Good ss a t) {k m : Nat} (hk : k ≤ m) (hm : m ≤ 128) :
    Ytmjbhmmcpjhmcaa.tearL (Ytmjbhmmcpjhmcaa.tearL ss (a : Int) t (k : Int)) (a : Int) t (m : Int) = Ytmjbhmmcpjhmcaa.tearL ss (a : Int) t (m : Int) := by
  rw [(h.next (by omega : k ≤ 128)).tearL hm, h.tearL (by omega : k ≤ 128), h.tearL hm, getD_set_self _ _ _ h.lt, torn_twice _ _ _ _ h.old h.size hk hm, List.set_set]
theorem Good.none {ss : List ByteArray} {a : Nat} {t : ByteArray} (h : Good ss a t) : Ytmjbhmmcpjhmcaa.tearL ss (a : Int) t 0 = ss := by
  have := h.tearL (k := 0) (by omega)
  rw [torn_zero _ _ h.old h.size, set_self _ _ h.lt] at this
  exact this
theorem Good.all {ss : List ByteArray} {a : Nat} {t : ByteArray} (h : Good ss a t) : Ytmjbhmmcpjhmcaa.tearL ss (a : Int) t 128 = ss.set a t := by
  have := h.tearL (k := 128) (by omega)
  rw [torn_full _ _ h.old h.size] at this
  exact this
theorem Good.read {ss : List ByteArray} {a : Nat} {t : ByteArray} (h : Good ss a t) : readS (Ytmjbhmmcpjhmcaa.tearL ss (a : Int) t 128) (a : Int) = t := by
  unfold readS
  have : findE (Ytmjbhmmcpjhmcaa.tearL ss (a : Int) t 128) (a : Int) = 0 := (h.next (k := 128) (by omega)).find
  rw [if_pos this, h.all]
  exact getD_set_self _ _ _ h.lt
theorem Good.findNext {ss : List ByteArray} {a : Nat} {t : ByteArray} (h : Good ss a t) {k : Nat} (hk : k ≤ 128) (b : Int) : findE (Ytmjbhmmcpjhmcaa.tearL ss (a : Int) t (k : Int)) b = findE ss b := by
  rw [h.tearL hk]
  exact find_set _ _ _ h.right (torn_size _ _ _ h.old h.size hk) b
/-- all others are as they were -/
theorem Good.others {ss : List ByteArray} {a : Nat} {t : ByteArray} (h : Good ss a t) {k : Nat} (hk : k ≤ 128) (b : Int) (hb : b ≠ (a : Int)) : readS (Ytmjbhmmcpjhmcaa.tearL ss (a : Int) t (k : Int)) b = readS ss b := by
  unfold readS
  rw [h.findNext hk b]
  by_cases hz : findE ss b = 0
  · rw [if_pos hz, if_pos hz, h.tearL hk]
    obtain ⟨_, h0, _⟩ := findE_zero hz
    rw [List.getD_eq_getElem?_getD, List.getElem?_set_ne (by omega), List.getD_eq_getElem?_getD]
  · rw [if_neg hz, if_neg hz]
theorem tear_length (ss : List ByteArray) (a : Int) (t : ByteArray) (k : Int) : (tearL ss a t k).length ≤ ss.length := by
  unfold tearL
  split
  · rw [List.length_set]; exact Nat.le_refl _
  · simp
/-- what is not refused is good -/
theorem good_of {ss : List ByteArray} {a : Int} {t : ByteArray} (hz : findE ss a = 0) (ht : t.size = 128) : ∃ i : Nat, a = i ∧ Good ss i t := by
  obtain ⟨h1, h2, h3⟩ := findE_zero hz
  obtain ⟨i, rfl⟩ := Int.eq_ofNat_of_zero_le h2
  exact ⟨i, rfl, h1, by omega, ht⟩
theorem tearE_bad {ss : List ByteArray} {a : Int} {t : ByteArray} {k : Int} (hz : findE ss a ≠ 0) : tearE ss a t k = findE ss a := by
  unfold tearE
  rw [if_neg hz]
theorem tearL_bad {ss : List ByteArray} {a : Int} {t : ByteArray} {k : Int} (hz : tearE ss a t k ≠ 0) : tearL ss a t k = [] := by
  unfold tearL
  rw [if_neg hz]
/-- the document's own write is this one -/
theorem Good.ref {ss : List ByteArray} {a : Nat} {t : ByteArray} (h : Good ss a t) {k : Nat} (hk : k ≤ 128) : rtearL ss a t k = Ytmjbhmmcpjhmcaa.tearL ss (a : Int) t (k : Int) := by
  rw [h.tearL hk]
  unfold rtearL tornS
  rw [h.old]
/-- a variable of the law's own that holds a disk -/
structure Var (w : World) (B : Nat) (oa : Option Addr) (n cap : Nat) (ss : List ByteArray) : Prop where
  row : w.heap[B]? = some (.cells #[.slice oa n cap] 24 (0, 0))
  rd : Rd w oa n cap ss
theorem Var.below {w w' : World} {B : Nat} {oa : Option Addr} {n cap : Nat} {ss : List ByteArray} (h : Var w B oa n cap ss) (hB : Below w.heap.size w w') : Var w' B oa n cap ss :=
  ⟨(hB.block B (lt_of_row h.row)).trans h.row, h.rd.below hB (Nat.le_refl _)⟩
theorem Var.next {w w' : World} {B : Nat} {oa : Option Addr} {n cap : Nat} {ss : List ByteArray} (h : Var w B oa n cap ss) (hB : Below w.heap.size w w') (o : Obj) : Var (w'.alloc o) B oa n cap ss :=
  (h.below hB).below (below_alloc w' o)
theorem Var.new {w : World} {oa : Option Addr} {n cap : Nat} {ss : List ByteArray} (h : Rd w oa n cap ss) : Var (w.alloc (.cells #[.slice oa n cap] 24)) w.heap.size oa n cap ss :=
  ⟨heap_alloc_new w _, h.below (below_alloc w _) (Nat.le_refl _)⟩
theorem Var.cell {w : World} {B : Nat} {oa : Option Addr} {n cap : Nat} {ss : List ByteArray} (h : Var w B oa n cap ss) : w.cell? ⟨B, 0, none⟩ = some (.slice oa n cap) := cell_of_one h.row
theorem Var.free {w : World} {B : Nat} {oa : Option Addr} {n cap : Nat} {ss : List ByteArray} (h : Var w B oa n cap ss) : w.frozen? ⟨B, 0, none⟩ = false := free_of_one h.row
theorem below_next {C : Nat} {w0 w w' : World} (h : Below C w0 w) (hC : C ≤ w.heap.size) (hB : Below w.heap.size w w') (o : Obj) : Below C w0 (w'.alloc o) :=
  (h.trans (hB.mono hC)).alloc (Nat.le_trans hC hB.size) o
end Go.Proofs.Ytmjbhmmcpjhmcaa
