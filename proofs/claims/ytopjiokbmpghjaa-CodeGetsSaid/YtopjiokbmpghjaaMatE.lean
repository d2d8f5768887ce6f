/-
  Matchers: two of them, held against each other.
-/
import Derived.Test.YtopjiokbmpghjaaLabE
namespace Go.Proofs.Ytopjiokbmpghjaa
open Go.RowKit Go.Shelf
set_option linter.unusedVariables false

theorem undM : Try.prog.underlying 45 = some (.struct (Try.prog.fieldsOf 45)) := by kernel_rfl
theorem stoodM : Try.prog.stoodInHeld 45 = false := by kernel_rfl
theorem fieldsM : ((Try.prog.fieldsOf 45).toList.map fun f => (f.name, f.type, f.offset)) = [("Kind", 3, 0), ("Name", 9, 1), ("Value", 9, 2)] := by kernel_rfl
theorem undI : Try.prog.underlying 3 = some (.int .i64) := by kernel_rfl
set_option maxHeartbeats 1600000 in
theorem eqlM (j : Int) (a b : ByteArray) (k : Int) (s t : ByteArray) (w : World) :
    (binOp .eql 45 (.agg #[.int .i64 j, .string a, .string b]) (.agg #[.int .i64 k, .string s, .string t])).run Try.prog w = .ok (.bool ((j == k) && (a.toList == s.toList && b.toList == t.toList))) w := by
  have hf := fieldsM
  rw [run_eql_struct, run_equalIn_struct (d := 9999) w _ _ _ undM stoodM]
  generalize (Try.prog.fieldsOf 45).toList = fs at *
  rcases fs with _ | ⟨f, _ | ⟨g, _ | ⟨h, _ | ⟨r, r'⟩⟩⟩⟩
  · simp at hf
  · simp at hf
  · simp at hf
  · simp only [List.map_cons, List.map_nil, List.cons.injEq, Prod.mk.injEq, and_true] at hf
    obtain ⟨⟨f1, f2, f3⟩, ⟨g1, g2, g3⟩, h1, h2, h3⟩ := hf
    have hs := Try.sizeOf9
    have ha := Try.isAgg9
    have is := Try.sizeOf3
    have ia := Try.isAgg3
    simp only [Op.eqFields, f1, f2, f3, g1, g2, g3, h1, h2, h3]
    cases e0 : (j == k) <;> cases e1 : (a.toList == s.toList) <;> cases e2 : (b.toList == t.toList) <;> simp [Sem.run_bind, part, hs, ha, is, ia, run_equalIn_int _ _ _ _ _ _ _ undI, run_equalIn_string _ _ _ _ _ undS, e0, e1, e2]
  · simp at hf
set_option maxHeartbeats 800000 in
theorem neqM_same (k : Int) (s t : ByteArray) (w : World) :
    (binOp .neq 45 (.agg #[.int .i64 k, .string s, .string t]) (.agg #[.int .i64 k, .string s, .string t])).run Try.prog w = .ok (.bool false) w := by
  have h := eqlM k s t k s t w
  rw [run_eql_struct] at h
  rw [run_neq_struct]
  generalize (Op.equalIn 10000 45 (.agg #[.int .i64 k, .string s, .string t]) (.agg #[.int .i64 k, .string s, .string t])).run Try.prog w = r at *
  cases r with
  | ok b w1 =>
    simp [Result.andThen] at h ⊢
    exact h
  | halt x w1 => simp [Result.andThen] at h
set_option maxHeartbeats 800000 in
theorem neqL_same (s t : ByteArray) (w : World) :
    (binOp .neq 57 (.agg #[.string s, .string t]) (.agg #[.string s, .string t])).run Try.prog w = .ok (.bool false) w := by
  have h := eqlL s t s t w
  rw [run_eql_struct] at h
  rw [run_neq_struct]
  generalize (Op.equalIn 10000 57 (.agg #[.string s, .string t]) (.agg #[.string s, .string t])).run Try.prog w = r at *
  cases r with
  | ok b w1 =>
    simp [Result.andThen] at h ⊢
    exact h
  | halt x w1 => simp [Result.andThen] at h
end Go.Proofs.Ytopjiokbmpghjaa
