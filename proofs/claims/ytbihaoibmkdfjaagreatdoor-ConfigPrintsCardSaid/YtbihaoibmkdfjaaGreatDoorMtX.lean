/-
  Matchers: two of them, held against each other.
  The document's own: rows of labels, and of matchers, that are the same.
-/
import Derived.Test.YtbihaoibmkdfjaaGreatDoorLabN
import Derived.Laws.StructEq
import Derived.Deep.QuietTactic
import Derived.BigQuiet
namespace Go.Proofs.YtbihaoibmkdfjaaGreatDoor
open Go.RowKit Go.Shelf
set_option linter.unusedVariables false

theorem undS : Tryz.prog.underlying 9 = some .string := by kernel_rfl
theorem undM : Tryz.prog.underlying 59 = some (.struct (Tryz.prog.fieldsOf 59)) := by kernel_rfl
theorem stoodM : Tryz.prog.stoodInHeld 59 = false := by kernel_rfl
theorem fieldsM : ((Tryz.prog.fieldsOf 59).toList.map fun f => (f.name, f.type, f.offset)) = [("Kind", 3, 0), ("Name", 9, 1), ("Value", 9, 2)] := by kernel_rfl
theorem undI : Tryz.prog.underlying 3 = some (.int .i64) := by kernel_rfl
set_option maxHeartbeats 1600000 in
theorem eqlM (j : Int) (a b : ByteArray) (k : Int) (s t : ByteArray) (w : World) :
    (binOp .eql 59 (.agg #[.int .i64 j, .string a, .string b]) (.agg #[.int .i64 k, .string s, .string t])).run Tryz.prog w = .ok (.bool ((j == k) && (a.toList == s.toList && b.toList == t.toList))) w := by
  have hf := fieldsM
  rw [run_eql_struct, run_equalIn_struct (d := 9999) w _ _ _ undM stoodM]
  generalize (Tryz.prog.fieldsOf 59).toList = fs at *
  rcases fs with _ | ⟨f, _ | ⟨g, _ | ⟨h, _ | ⟨r, r'⟩⟩⟩⟩
  · simp at hf
  · simp at hf
  · simp at hf
  · simp only [List.map_cons, List.map_nil, List.cons.injEq, Prod.mk.injEq, and_true] at hf
    obtain ⟨⟨f1, f2, f3⟩, ⟨g1, g2, g3⟩, h1, h2, h3⟩ := hf
    have hs := Tryz.sizeOf9
    have ha := Tryz.isAgg9
    have is := Tryz.sizeOf3
    have ia := Tryz.isAgg3
    simp only [Op.eqFields, f1, f2, f3, g1, g2, g3, h1, h2, h3]
    cases e0 : (j == k) <;> cases e1 : (a.toList == s.toList) <;> cases e2 : (b.toList == t.toList) <;> simp [Sem.run_bind, part, hs, ha, is, ia, run_equalIn_int _ _ _ _ _ _ _ undI, run_equalIn_string _ _ _ _ _ undS, e0, e1, e2]
  · simp at hf
set_option maxHeartbeats 800000 in
theorem neqM_same (k : Int) (s t : ByteArray) (w : World) :
    (binOp .neq 59 (.agg #[.int .i64 k, .string s, .string t]) (.agg #[.int .i64 k, .string s, .string t])).run Tryz.prog w = .ok (.bool false) w := by
  have h := eqlM k s t k s t w
  rw [run_eql_struct] at h
  rw [run_neq_struct]
  generalize (Op.equalIn 10000 59 (.agg #[.int .i64 k, .string s, .string t]) (.agg #[.int .i64 k, .string s, .string t])).run Tryz.prog w = r at *
  cases r with
  | ok b w1 =>
    simp [Result.andThen] at h ⊢
    exact h
  | halt x w1 => simp [Result.andThen] at h
end Go.Proofs.YtbihaoibmkdfjaaGreatDoor
namespace Go.Proofs.YtbihaoibmkdfjaaGreatDoor
open Go.RowKit Go.Shelf
set_option linter.unusedVariables false

set_option maxRecDepth 100000 in
set_option maxHeartbeats 1600000 in
theorem asked_any (oa : Option Addr) (n cap : Nat) (ob : Option Addr) (n' cap' : Nat) (l : List M3) (w : World) (h : Ms w oa n cap l) (h' : Ms w ob n' cap' l) (hn : n ≤ 3074457345618258602) :
    Calls Tryz.prog 20 #[.slice oa n cap, .slice ob n' cap'] w fun e w' => e = .returned (.bool true) ∧ Below w.heap.size w w' := by
  have hl := h.len
  have hr := h.room
  have hr' := h'.room
  obtain rfl : n = n' := by rw [← h.len, h'.len]
  have hq := fun (k : Int) (s t : ByteArray) (w : World) => neqM_same k s t w
  go_enter Tryz.func20, Tryz.ntmps20
  go_wp2_with fail
  go_loopw [5, 13] (fun _ s13 wr => ∃ k : Nat, k ≤ n ∧ s13 = .int .i64 k ∧ Below w.heap.size w wr) (fun _ s13 _ => n - (intOf s13).toNat)
  case atStart => exact ⟨0, Nat.zero_le _, rfl, Below.refl _ _⟩
  case round =>
    obtain ⟨k, hk, rfl, hB⟩ := hrel
    by_cases hlt : k < n
    · obtain ⟨g, o, rfl, c0, c1, c2⟩ := (h.below hB (Nat.le_refl _)).cell k hlt
      obtain ⟨g', o', rfl, d0, d1, d2⟩ := (h'.below hB (Nat.le_refl _)).cell k hlt
      generalize l.getD k zM = x at *
      obtain ⟨q, s, t⟩ := x
      dsimp only at c0 c1 c2 d0 d1 d2
      clear h h' hl
      go_wp2_with fail
      go_quiet (fail)
      go_wp2_with fail
      go_roundw
      case rel => exact ⟨k + 1, by omega, by go_num, belowN hB _⟩
      case measure => simp [intOf]; omega
    · obtain rfl : k = n := by omega
      clear h h' hl hq
      go_wp2_with fail
      go_ret
      exact ⟨rfl, hB⟩
end Go.Proofs.YtbihaoibmkdfjaaGreatDoor
