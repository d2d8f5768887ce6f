/-
  The program's own: the next bytes, a number, a word of what is left of a text.
-/
import Derived.Test.YtopjiokbmpghjaaCodM
import Derived.Test.YtopjiokbmpghjaaVals
import Derived.Test.YtopjiokbmpghjaaRcdA
import Derived.Laws.IdiomStrings
import Derived.Laws.BitsLemmas
import Derived.RegionTactic
import Derived.Deep.RegionHeld3
namespace Go.Proofs.Ytopjiokbmpghjaa
open Go.RowKit Go.Shelf
set_option linter.unusedVariables false
set_option linter.unusedSimpArgs false

/-- but for block A, what lay there lies there -/
structure But (A : Nat) (w w' : World) : Prop where
  os : w'.os = w.os
  tape : w'.tape = w.tape
  output : w'.output = w.output
  size : w.heap.size ≤ w'.heap.size
  block : ∀ k, k ≠ A → k < w.heap.size → w'.heap[k]? = w.heap[k]?
theorem But.refl (A : Nat) (w : World) : But A w w := ⟨rfl, rfl, rfl, Nat.le_refl _, fun _ _ _ => rfl⟩
theorem But.trans {A : Nat} {a b c : World} (h : But A a b) (k : But A b c) : But A a c :=
  ⟨k.os.trans h.os, k.tape.trans h.tape, k.output.trans h.output, Nat.le_trans h.size k.size, fun i hi hl => (k.block i hi (Nat.lt_of_lt_of_le hl h.size)).trans (h.block i hi hl)⟩
theorem But.of_below {A : Nat} {w w' : World} (h : Below w.heap.size w w') : But A w w' := ⟨h.os, h.tape, h.output, h.size, fun i _ hl => h.block i hl⟩
theorem But.set {A : Nat} {a w : World} (h : But A a w) (i : Nat) (v : Value) : But A a (w.setCell ⟨A, i, none⟩ v) :=
  h.trans ⟨rfl, rfl, rfl, by simp [World.setCell], fun k hk _ => Below.heap_setCell _ _ _ _ hk⟩
theorem But.alloc {A : Nat} {a w : World} (h : But A a w) (o : Obj) : But A a (w.alloc o) := h.trans (But.of_below (below_alloc w o))
theorem But.drew {A : Nat} {a w : World} (h : But A a w) : But A a w.drew := ⟨h.os, h.tape, h.output, h.size, h.block⟩
theorem But.below {A C : Nat} {w w' : World} (h : But A w w') (hA : C ≤ A) (hC : C ≤ w.heap.size) : Below C w w' := ⟨h.os, h.tape, h.output, h.size, fun k hk => h.block k (by omega) (by omega)⟩
theorem But.vals {A B : Nat} {w w' : World} {T : TypeId} {xs : Array Value} (h : But A w w') (hV : Vals w B T xs) (hne : B ≠ A) : Vals w' B T xs := (h.block B hne hV.lt).trans hV
theorem But.own {A : Nat} {w w' : World} {base : Nat} {e : TypeId} {size : Nat} {v : Value} {n : Nat} {xs : List Value} (h : But A w w') (hw : w.ownsRow base e size v n xs) (hA : A < base) : w'.ownsRow base e size v n xs := by
  refine ⟨hw.1, ?_⟩
  rcases hw.2 with h2 | ⟨g, cap, cur, h3, h4, h5, h6⟩
  · exact .inl h2
  · exact .inr ⟨g, cap, cur, h3, h4, (h.block g (by omega) (Array.getElem?_eq_some_iff.1 h5).1).trans h5, h6⟩
/-- what is left lies in block A -/
def Left (w : World) (A : Nat) (s : SR) : Prop := Vals w A 63 #[.string (tx s.1), .bool s.2]
theorem Left.but {A B : Nat} {w w' : World} {s : SR} (h : Left w A s) (hB : But B w w') (hne : A ≠ B) : Left w' A s := hB.vals h hne
theorem tx_zero {l : List UInt8} (h : l = []) : tx l = ByteArray.empty := by rw [h]; rfl
set_option maxRecDepth 100000 in
set_option maxHeartbeats 1600000 in
theorem next_any (A : Nat) (s : SR) (n : Nat) (hs : s.1.length ≤ 1000) (hn : n ≤ 1000) (w : World) (h : Left w A s) :
    Calls Try.prog 66 #[.pointer (some ⟨A, 0, none⟩), .int .i64 (n : Int)] w fun e w' => e = .returned (.string (tx (nxt n s).1)) ∧ Left w' A (nxt n s).2 ∧ But A w w' := by
  obtain ⟨L, sh⟩ := s
  unfold Left at *
  dsimp only at *
  have p0 : w.cell? ⟨A, 0, none⟩ = some (.string (tx L)) := h.cell 0
  have p1 : w.cell? ⟨A, 1, none⟩ = some (.bool sh) := h.cell 1
  have f0 := h.free 0
  have f1 := h.free 1
  have hz := tx_size L
  by_cases hlt : n ≤ L.length
  · have HX : Hid (nxt n (L, sh) = (L.take n, (L.drop n, sh))) := by show _ = _; unfold nxt; dsimp only; rw [if_pos hlt]
    rw [HX.out]
    dsimp only
    have e1 : (tx L).extract 0 n = tx (L.take n) := by rw [tx_cut, List.drop_zero]
    have e2 : (tx L).extract n L.length = tx (L.drop n) := by rw [tx_cut, List.take_length]
    have hV := h.set 0 (.string (tx (L.drop n)))
    have hB := (But.refl A w).set 0 (.string (tx (L.drop n)))
    have hV' : Vals (w.setCell ⟨A, 0, none⟩ (.string (tx (L.drop n)))) A 63 #[.string (tx (L.drop n)), .bool sh] := by simpa using hV
    clear hV HX h
    have hle : n ≤ (tx L).size := by omega
    generalize tx (L.drop n) = y at *
    generalize tx (L.take n) = x at *
    generalize tx L = t at *
    go_enter Try.func66, Try.ntmps66
    go_wp2_with fail
    go_ret
    exact ⟨rfl, hV', hB⟩
  · have HX : Hid (nxt n (L, sh) = ([], (L, true))) := by show _ = _; unfold nxt; dsimp only; rw [if_neg hlt]
    rw [HX.out]
    dsimp only
    have e1 := tx_zero (l := []) rfl
    have hV := h.set 1 (.bool true)
    have hB := (But.refl A w).set 1 (.bool true)
    have hV' : Vals (w.setCell ⟨A, 1, none⟩ (.bool true)) A 63 #[.string (tx L), .bool true] := by simpa using hV
    clear hV HX h
    rw [e1]
    clear e1
    generalize tx L = t at *
    go_enter Try.func66, Try.ntmps66
    go_wp2_with fail
    go_ret
    exact ⟨rfl, hV', hB⟩
set_option maxRecDepth 100000 in
set_option maxHeartbeats 400000 in
theorem ended_any (A : Nat) (s : SR) (w : World) (h : Left w A s) :
    Calls Try.prog 36 #[.pointer (some ⟨A, 0, none⟩)] w fun e w' => e = .returned (.bool (decide (s.1 = []) && !s.2)) ∧ w' = w := by
  obtain ⟨L, sh⟩ := s
  unfold Left at *
  dsimp only at *
  have p0 : w.cell? ⟨A, 0, none⟩ = some (.string (tx L)) := h.cell 0
  have p1 : w.cell? ⟨A, 1, none⟩ = some (.bool sh) := h.cell 1
  clear h
  by_cases hL : L = []
  · subst hL
    have e1 := tx_zero (l := []) rfl
    rw [e1] at p0
    go_enter Try.func36, Try.ntmps36
    go_wp2_with fail
    go_ret
    exact ⟨rfl, rfl⟩
  · have hne : decide (L = []) = false := by simp [hL]
    have hz : (tx L).toList.isEmpty = false := by
      rw [ByteArray.toList_eq]
      show (tx L).data.toList.isEmpty = false
      rw [tx_data]
      cases L with
      | nil => exact absurd rfl hL
      | cons a l => rfl
    generalize tx L = t at *
    go_enter Try.func36, Try.ntmps36
    go_wp2_with fail
    go_ret
    exact ⟨retB (by rw [hne]; rfl), rfl⟩
theorem numL_next (l : List UInt8) (k : Nat) (hk : k < l.length) : numL (l.take (k + 1)) = numL (l.take k) * 256 + (l.getD k 0).toNat := by
  unfold numL
  rw [List.take_succ_eq_append_getElem hk, List.foldl_append, List.getD_eq_getElem?_getD, List.getElem?_eq_getElem hk]
  rfl
theorem numL_take_lt (l : List UInt8) (k : Nat) (hk : k ≤ 6) : numL (l.take k) < 256 ^ k := by
  have h := numL_bound (l.take k)
  have : 256 ^ (l.take k).length ≤ 256 ^ k := Nat.pow_le_pow_right (by decide) (by rw [List.length_take]; omega)
  omega
theorem i64_small (n : Int) (h0 : 0 ≤ n) (h1 : n < 2 ^ 62) : IntKind.i64.wrap n = n := by
  have e : (2 : Int) ^ 62 = 4611686018427387904 := by decide
  rw [e] at h1
  exact IntWalk.i64_in n ⟨by omega, by omega⟩
theorem or_join (a b : Int) (h0 : 0 ≤ a) (h1 : a < 4398046511104) (h2 : 0 ≤ b) (h3 : b ≤ 255) : bits .or .i64 (a * 256) b = a * 256 + b :=
  bits_join .i64 62 (by decide) i64_small 8 (a * 256) b (by omega) (by omega) (by omega) h2 (by omega) (by omega)
theorem retN {a b : Nat} (h : a = b) : Ending.returned (.int .i64 (a : Int)) = .returned (.int .i64 (b : Int)) := by rw [h]
theorem bytes_cell (w : World) (t : ByteArray) (cap : Nat) (fz : Nat × Nat) (T : TypeId) (k : Nat) (hk : k < t.size) : (w.alloc (.cells (bytesRow t cap) T fz)).cell? ⟨w.heap.size, k, none⟩ = some (.int .u8 ((t.data.toList.getD k 0).toNat : Int)) := by
  have h1 : (w.alloc (.cells (bytesRow t cap) T fz)).heap[w.heap.size]? = some (.cells (bytesRow t cap) T fz) := heap_alloc_new w _
  rw [cell_of_row _ _ k _ _ _ h1, bytesRow_at t cap k hk]
  have h2 : k < t.data.toList.length := by simpa using hk
  rw [List.getD_eq_getElem?_getD, List.getElem?_eq_getElem h2]
  simp
set_option maxRecDepth 100000 in
set_option maxHeartbeats 3200000 in
theorem number_any (A : Nat) (s : SR) (n : Nat) (hs : s.1.length ≤ 1000) (hn : n ≤ 6) (w : World) (h : Left w A s) :
    Calls Try.prog 53 #[.pointer (some ⟨A, 0, none⟩), .int .i64 (n : Int)] w fun e w' => e = .returned (.int .i64 ((num n s).1 : Int)) ∧ Left w' A (num n s).2 ∧ But A w w' := by
  have HN := next_any A s n hs (by omega) w h
  have hl := (nxt_len n s).1
  have HX : Hid (num n s = (numL (nxt n s).1, (nxt n s).2)) := rfl
  rw [HX.out]
  clear HX
  dsimp only
  generalize nxt n s = z at *
  obtain ⟨l, s2⟩ := z
  dsimp only at *
  have hcv := fun (w : World) (s : ByteArray) => run_bytes_of_string (P := Try.prog) w 9 69 5 s Try.underlying9 Try.underlying69 Try.underlying5
  have hA := h.lt
  clear h
  go_enter Try.func53, Try.ntmps53
  go_wp2_with fail
  refine HN.mono ?_
  rintro e w1 ⟨rfl, hL, hB⟩
  have hz : (tx l).size = l.length := tx_size l
  have hC : ∀ k, k < l.length → (w1.alloc (.cells (bytesRow (tx l) (grownCap w1 l.length 0 5)) 5 ((bytesRow (tx l) (grownCap w1 l.length 0 5)).size, (bytesRow (tx l) (grownCap w1 l.length 0 5)).size + 1))).drew.cell? ⟨w1.heap.size, k, none⟩ = some (.int .u8 ((l.getD k 0).toNat : Int)) := fun k hk => by
    have := bytes_cell w1 (tx l) (grownCap w1 l.length 0 5) ((bytesRow (tx l) (grownCap w1 l.length 0 5)).size, (bytesRow (tx l) (grownCap w1 l.length 0 5)).size + 1) 5 k (by omega)
    rw [tx_data] at this
    exact this
  have hB2 := (hB.alloc (.cells (bytesRow (tx l) (grownCap w1 l.length 0 5)) 5 ((bytesRow (tx l) (grownCap w1 l.length 0 5)).size, (bytesRow (tx l) (grownCap w1 l.length 0 5)).size + 1))).drew
  have hL2 : Left (w1.alloc (.cells (bytesRow (tx l) (grownCap w1 l.length 0 5)) 5 ((bytesRow (tx l) (grownCap w1 l.length 0 5)).size, (bytesRow (tx l) (grownCap w1 l.length 0 5)).size + 1))).drew A s2 := Vals.alloc (w := w1) hL _
  go_wp2_with fail
  clear hcv HN hL hB
  generalize World.drew _ = W at *
  generalize w1.heap.size = X at *
  go_loopw [5, 7, 13] (fun s5 _ s13 wr => ∃ (k m : Nat), k ≤ l.length ∧ s13 = .int .i64 k ∧ s5 = .int .i64 m ∧ m = numL (l.take k) ∧ wr = W) (fun _ _ s13 _ => l.length - (intOf s13).toNat)
  case atStart => exact ⟨0, 0, Nat.zero_le _, rfl, rfl, rfl, rfl⟩
  case round =>
    obtain ⟨k, m, hk, rfl, rfl, hm, rfl⟩ := hrel
    by_cases hlt : k < l.length
    · have hc := hC k hlt
      have HM := Lib.hid (numL_next l k hlt)
      rw [← hm] at HM
      have hmb := numL_take_lt l k (by omega)
      rw [← hm] at hmb
      have hp : 256 ^ k ≤ 256 ^ 5 := Nat.pow_le_pow_right (by decide) (by omega)
      have hmb2 : (m : Int) < 4398046511104 := by
        have : 256 ^ 5 = 1099511627776 := by decide
        omega
      have hb := (l.getD k 0).toNat_lt
      have ho := or_join (m : Int) ((l.getD k 0).toNat : Int) (by omega) hmb2 (by omega) (by omega)
      clear hC hmb hp hm
      generalize (l.getD k 0).toNat = c at *
      go_wp2_with fail
      go_roundw
      case rel => exact ⟨k + 1, m * 256 + c, by omega, by go_num, by go_num, HM.out.symm, by first | rfl | trivial⟩
      case measure => simp [intOf]; omega
    · obtain rfl : k = l.length := by omega
      have HF : Hid (m = numL l) := by show _ = _; rw [hm, List.take_length]
      clear hm hC
      go_wp2_with fail
      go_ret
      exact ⟨retN HF.out, hL2, hB2⟩
end Go.Proofs.Ytopjiokbmpghjaa
