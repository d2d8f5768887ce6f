/-
  What recovers: a write that was not made is told, and nothing else happens.
-/
import Derived.Test.YtmjbhmmcpjhmcaaLogG
namespace Go.Proofs.Ytmjbhmmcpjhmcaa
open Go.RowKit
set_option linter.unusedVariables false

theorem assert_made (v : Value) (V : World) : (Instr.typeAssert (.iface 89 v) 20 89 true).run Try.prog V = .ok (.tuple #[v, .bool true]) V := by
  kernel_rfl
set_option maxRecDepth 100000 in
set_option maxHeartbeats 1600000 in
theorem catch_made (B : Nat) (x er : Int) (older : List PanicEntry) (w : World) (hc : w.cell? ⟨B, 0, none⟩ = some (.int .i64 x)) (hz : w.frozen? ⟨B, 0, none⟩ = false) :
    CallsD Try.prog 58 #[.pointer (some ⟨B, 0, none⟩)] (.panicking (notV er :: older)) w fun e u' w' =>
      e = .returned (.tuple #[]) ∧ u' = .panicking ({ notV er with recovered := true } :: older) ∧ w' = (w.alloc (.cells #[.int .i64 er] 89)).setCell ⟨B, 0, none⟩ (.int .i64 er) := by
  unfold notV
  refine callsD_of_wpS Try.func58 rfl fun c₀ cs hu => ?_
  apply wpS_seq
  apply wpS_region
  simp [wpOpsS, go_sem, recoverD, hu, Try.ntmps58, Exit.thenS]
  have ht : (#[Value.pointer (some ⟨B, 0, none⟩)] ++ (Array.replicate 11 undef).setIfInBounds 3 (Value.iface 89 (Value.agg #[Value.int IntKind.i64 er]))) = #[Value.pointer (some ⟨B, 0, none⟩), undef, undef, undef, Value.iface 89 (Value.agg #[Value.int IntKind.i64 er]), undef, undef, undef, undef, undef, undef, undef] := rfl
  rw [ht]
  refine wpS_of_wp ?_
  have hB0 := below_alloc w (.cells #[.int .i64 er] 89)
  have hc1 := keepC hB0 hc
  have hf1 := keepF hB0 hc hz
  have hta := assert_made (.agg #[.int .i64 er])
  clear ht
  go_wp2_with fail
  exact ⟨rfl, _, rfl, _, results_none rfl _ _ _, rfl, rfl, rfl⟩
set_option maxRecDepth 100000 in
set_option maxHeartbeats 1600000 in
theorem catch_none (B : Nat) (w : World) :
    CallsD Try.prog 58 #[.pointer (some ⟨B, 0, none⟩)] .returning w fun e u' w' => e = .returned (.tuple #[]) ∧ u' = .returning ∧ w' = w := by
  refine callsD_of_wpS Try.func58 rfl fun c₀ cs hu => ?_
  apply wpS_seq
  apply wpS_region
  simp [wpOpsS, go_sem, recoverD, hu, Try.ntmps58, Exit.thenS]
  have ht : (#[Value.pointer (some ⟨B, 0, none⟩)] ++ (Array.replicate 11 undef).setIfInBounds 3 Value.nilIface) = #[Value.pointer (some ⟨B, 0, none⟩), undef, undef, undef, Value.nilIface, undef, undef, undef, undef, undef, undef, undef] := rfl
  rw [ht]
  refine wpS_of_wp ?_
  clear ht
  go_wp2_with fail
  exact ⟨rfl, _, by rw [← hu], _, results_none rfl _ _ _, rfl, rfl, rfl⟩

theorem SRow.mids {w : World} {A : Nat} {x : Value} {g u t : Int} {d : Bool} (h : SRow w A x g u t d) : w.cell? ⟨A, 1, none⟩ = some (.int .i64 g) ∧ w.cell? ⟨A, 2, none⟩ = some (.int .i64 u) ∧ w.cell? ⟨A, 3, none⟩ = some (.int .i64 t) := by
  refine ⟨?_, ?_, ?_⟩ <;> rw [cell_of_row w _ _ _ _ _ h] <;> rfl
/-- what is to stand in a sector -/
structure PRd (w : World) (oa : Option Addr) (n cap : Nat) (ps : List (Nat × ByteArray)) : Prop where
  len : ps.length = n
  room : n ≤ cap
  cell : ∀ i, i < n → ∃ g, oa = some ⟨g, 0, none⟩ ∧ w.cell? ⟨g, i * 2, none⟩ = some (.int .i64 ((ps.getD i (0, ByteArray.empty)).1 : Int)) ∧ w.cell? ⟨g, i * 2 + 1, none⟩ = some (.string (ps.getD i (0, ByteArray.empty)).2)
theorem PRd.below {w w' : World} {oa : Option Addr} {n cap : Nat} {ps : List (Nat × ByteArray)} (h : PRd w oa n cap ps) {C : Nat} (hB : Below C w w') (hC : w.heap.size ≤ C) : PRd w' oa n cap ps := by
  refine ⟨h.len, h.room, fun i hi => ?_⟩
  obtain ⟨g, hg, hc, hd⟩ := h.cell i hi
  have := World.block_lt_of_cell? w _ hc
  exact ⟨g, hg, (hB.cell (p := ⟨g, i * 2, none⟩) (Nat.lt_of_lt_of_le this hC)).trans hc, (hB.cell (p := ⟨g, i * 2 + 1, none⟩) (Nat.lt_of_lt_of_le this hC)).trans hd⟩
/-- a disk behind these writes, each with the next fault; whether it is down; and why not all were made -/
def wrM (ss : List ByteArray) (d : Bool) : List (Nat × ByteArray) → List (Int × Int) → List ByteArray × Bool × Int
  | [], _ => (ss, d, 0)
  | (i, t) :: ps, fs =>
    if (fs.getD 0 (0, 0)).1 = 1 then (ss, d, 8)
    else if (fs.getD 0 (0, 0)).1 = 2 then (tornL ss i t (fs.getD 0 (0, 0)).2.toNat, true, 9)
    else wrM (ss.set i t) d ps (fs.drop 1)
/-- may the fault be -/
def faultB (f : Int × Int) : Bool := withinB f.1 0 2 && withinB f.2 0 128
theorem fault_iff (f : Int × Int) : faultB f = true ↔ 0 ≤ f.1 ∧ f.1 ≤ 2 ∧ 0 ≤ f.2 ∧ f.2 ≤ 128 := by
  unfold faultB withinB
  simp [and_assoc]
theorem fault_at {fs : List (Int × Int)} (hf : ∀ f ∈ fs, faultB f = true) (k : Nat) : faultB (fs.getD k (0, 0)) = true := by
  rw [List.getD_eq_getElem?_getD]
  cases h : fs[k]? with
  | none => rfl
  | some f => exact hf f (List.mem_of_getElem? h)
theorem drop_at {α : Type} (l : List α) (k : Nat) (z : α) (h : k < l.length) : l.drop k = l.getD k z :: l.drop (k + 1) := by
  rw [List.drop_eq_getElem_cons h, List.getD_eq_getElem?_getD, List.getElem?_eq_getElem h]
  rfl
theorem getD_drop {α : Type} (l : List α) (k : Nat) (z : α) : (l.drop k).getD 0 z = l.getD k z := by
  rw [List.getD_eq_getElem?_getD, List.getElem?_drop, List.getD_eq_getElem?_getD]
  rfl
theorem wr_fail (ss : List ByteArray) (d : Bool) (ps : List (Nat × ByteArray)) (fs : List (Int × Int)) (k : Nat) (h : k < ps.length) (hf : (fs.getD k (0, 0)).1 = 1) : wrM ss d (ps.drop k) (fs.drop k) = (ss, d, 8) := by
  rw [drop_at ps k (0, ByteArray.empty) h]
  unfold wrM
  rw [getD_drop, if_pos hf]
theorem wr_crash (ss : List ByteArray) (d : Bool) (ps : List (Nat × ByteArray)) (fs : List (Int × Int)) (k : Nat) (h : k < ps.length) (hf : (fs.getD k (0, 0)).1 = 2) : wrM ss d (ps.drop k) (fs.drop k) = (tornL ss (ps.getD k (0, ByteArray.empty)).1 (ps.getD k (0, ByteArray.empty)).2 (fs.getD k (0, 0)).2.toNat, true, 9) := by
  rw [drop_at ps k (0, ByteArray.empty) h]
  unfold wrM
  rw [getD_drop, if_neg (by rw [hf]; decide), if_pos hf]
theorem wr_ok (ss : List ByteArray) (d : Bool) (ps : List (Nat × ByteArray)) (fs : List (Int × Int)) (k : Nat) (h : k < ps.length) (h1 : (fs.getD k (0, 0)).1 ≠ 1) (h2 : (fs.getD k (0, 0)).1 ≠ 2) : wrM ss d (ps.drop k) (fs.drop k) = wrM (ss.set (ps.getD k (0, ByteArray.empty)).1 (ps.getD k (0, ByteArray.empty)).2) d (ps.drop (k + 1)) (fs.drop (k + 1)) := by
  rw [drop_at ps k (0, ByteArray.empty) h]
  conv => lhs; unfold wrM
  rw [getD_drop, if_neg h1, if_neg h2, List.drop_drop, Nat.add_comm]
theorem wr_end (ss : List ByteArray) (d : Bool) (ps : List (Nat × ByteArray)) (fs : List (Int × Int)) : wrM ss d (ps.drop ps.length) fs = (ss, d, 0) := by
  rw [List.drop_length]
  rfl
theorem page_at {ps : List (Nat × ByteArray)} {n : Nat} (hp : ∀ q ∈ ps, q.1 < n ∧ q.2.size = 128) {k : Nat} (h : k < ps.length) : (ps.getD k (0, ByteArray.empty)).1 < n ∧ (ps.getD k (0, ByteArray.empty)).2.size = 128 := by
  rw [List.getD_eq_getElem?_getD, List.getElem?_eq_getElem h]
  exact hp _ (List.getElem_mem h)
end Go.Proofs.Ytmjbhmmcpjhmcaa
